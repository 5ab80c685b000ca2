/-
  Lemmas on automata, dictionaries and the walk over them, the program's calls and the given ones.
-/
import Derived.Test.YtmdefnbpimfbgaaGreatDoorQ15
import Derived.Test.YtmdefnbpimfbgaaGreatDoorQ9
set_option maxRecDepth 100000
set_option maxHeartbeats 16000000
namespace Go.Proofs.YtmdefnbpimfbgaaGreatDoor
namespace F12
open Go.RowKit
theorem mk_of {s:ByteArray} {l:List UInt8} (h:s.data.toList=l):s=⟨l.toArray⟩:=by
 subst h
 cases s
 simp
theorem rdCount_bd (l:List UInt8) (n z e:Int) (h:Pl.rdCount l=(n,z,e)):
  (0≤n∧n≤9223372036854775807)∧(0≤z∧z≤l.length)∧(e=0∨e=2∨e=3)∧(e≠0→n=0∧z=0):=by
 obtain ⟨n',z',e',hw⟩:∃n z e,Pl.rdNum l=(n,z,e):=⟨_,_,_,rfl⟩
 have hb:=rdNum_bd _ _ _ _ hw
 unfold Pl.rdCount at h
 rw [hw] at h
 by_cases hn:n'<0
 ·rw [if_pos hn] at h
  obtain ⟨rfl,rfl,rfl⟩:0=n∧0=z∧3=e:=by simpa using h
  exact ⟨by omega,by omega,by omega,by omega⟩
 ·rw [if_neg hn] at h
  obtain ⟨rfl,rfl,rfl⟩:n'=n∧z'=z∧e'=e:=by simpa using h
  omega
end F12
namespace F12.Iv
open Go.Proofs.YtmdefnbpimfbgaaGreatDoor.Iv
open Go.Proofs.YtmdefnbpimfbgaaGreatDoor.Od
theorem count_back (n:Nat) (r:List UInt8) (h1:n≤9223372036854775807):Pl.rdCount (Pl.numB n++r)=((n:Int),((Pl.numB n).length:Int),0):=by
 unfold Pl.rdCount
 rw [num_back n r (by omega) (by omega),if_neg (by simp)]
end F12.Iv
namespace F12.Fs
open Go.RowKit
abbrev Nd:=Option Int × List (UInt8 × Int × Nat)
def finB:Option Int→List UInt8
 | some v=>Pl.numB v
 | none=>[]
def wayB (w:UInt8 × Int × Nat):List UInt8:=Pl.numB (w.1.toNat:Nat)++(Pl.numB w.2.1++Pl.numB (w.2.2:Nat))
def headN (n:Nd):Nat:=2*n.2.length+(if n.1.isSome then 1 else 0)
def bytesN (n:Nd):List UInt8:=Pl.numB (headN n:Nat)++(finB n.1++n.2.flatMap wayB)
def mx:Int:=9223372036854775807
structure OkN (n:Nd):Prop where
 fin:∀v,n.1=some v→0≤v∧v≤mx
 way:∀w∈n.2,0≤w.2.1∧w.2.1≤mx∧(w.2.2:Int)≤mx
 few:n.2.length≤256
theorem num_cancel {a b:Int} {r s:List UInt8} (ha:0≤a∧a≤mx) (hb:0≤b∧b≤mx) (h:Pl.numB a++r=Pl.numB b++s):a=b∧r=s:=by
 unfold mx at ha hb
 have h1:=congrArg Pl.rdNum h
 rw [Iv.num_back a r (by omega) (by omega),Iv.num_back b s (by omega) (by omega)] at h1
 injection h1 with h2 _
 subst h2
 exact ⟨rfl,List.append_cancel_left h⟩
theorem nat_mx {n:Nat} (h:(n:Int)≤mx):(0:Int)≤(n:Int)∧(n:Int)≤mx:=⟨by omega,h⟩
theorem way_cancel {v w:UInt8 × Int × Nat} {r s:List UInt8} (hv:0≤v.2.1∧v.2.1≤mx∧(v.2.2:Int)≤mx) (hw:0≤w.2.1∧w.2.1≤mx∧(w.2.2:Int)≤mx) (h:wayB v++r=wayB w++s):v=w∧r=s:=by
 unfold wayB at h
 rw [List.append_assoc,List.append_assoc,List.append_assoc,List.append_assoc] at h
 have hv1:=v.1.toNat_lt
 have hw1:=w.1.toNat_lt
 obtain ⟨h1,h⟩:=num_cancel (nat_mx (by unfold mx;omega)) (nat_mx (by unfold mx;omega)) h
 obtain ⟨h2,h⟩:=num_cancel ⟨hv.1,hv.2.1⟩ ⟨hw.1,hw.2.1⟩ h
 obtain ⟨h3,h4⟩:=num_cancel (nat_mx hv.2.2) (nat_mx hw.2.2) h
 obtain ⟨v1,v2,v3⟩:=v
 obtain ⟨w1,w2,w3⟩:=w
 dsimp only at h1 h2 h3
 have e1:v1=w1:=UInt8.toNat_inj.1 (by omega)
 have e3:v3=w3:=by omega
 exact ⟨by rw [e1,h2,e3],h4⟩
theorem ways_cancel:∀ {a b:List (UInt8 × Int × Nat)} {r s:List UInt8},a.length=b.length→(∀w∈a,0≤w.2.1∧w.2.1≤mx∧(w.2.2:Int)≤mx)→(∀w∈b,0≤w.2.1∧w.2.1≤mx∧(w.2.2:Int)≤mx)→a.flatMap wayB++r=b.flatMap wayB++s→a=b∧r=s
 | [],[],_,_,_,_,_,h=>⟨rfl,h⟩
 | [],_ :: _,_,_,hl,_,_,_=>by simp at hl
 | _ :: _,[],_,_,hl,_,_,_=>by simp at hl
 | v :: a,w :: b,r,s,hl,ha,hb,h=>by
  rw [List.flatMap_cons,List.flatMap_cons,List.append_assoc,List.append_assoc] at h
  obtain ⟨h1,h2⟩:=way_cancel (ha v (by simp)) (hb w (by simp)) h
  obtain ⟨h3,h4⟩:=ways_cancel (by simpa using hl) (fun x hx=>ha x (List.mem_cons_of_mem _ hx)) (fun x hx=>hb x (List.mem_cons_of_mem _ hx)) h2
  exact ⟨by rw [h1,h3],h4⟩
theorem headN_mx {n:Nd} (h:OkN n):(headN n:Int)≤mx:=by
 have:=h.few
 unfold headN mx
 split <;> omega
theorem bytesN_inj {n m:Nd} {r s:List UInt8} (hn:OkN n) (hm:OkN m) (h:bytesN n++r=bytesN m++s):n=m∧r=s:=by
 unfold bytesN at h
 rw [List.append_assoc,List.append_assoc,List.append_assoc,List.append_assoc] at h
 obtain ⟨h1,h⟩:=num_cancel (nat_mx (headN_mx hn)) (nat_mx (headN_mx hm)) h
 obtain ⟨fn,wn⟩:=n
 obtain ⟨fm,wm⟩:=m
 unfold headN at h1
 dsimp only at h1 h
 cases fn with
 | none=>
  cases fm with
  | none=>
   simp only [Option.isSome_none,Bool.false_eq_true,if_false] at h1
   obtain ⟨h2,h3⟩:=ways_cancel (a:=wn) (b:=wm) (by omega) hn.way hm.way h
   rw [h2];exact ⟨rfl,h3⟩
  | some v=>
   simp only [Option.isSome_none,Option.isSome_some,Bool.false_eq_true,if_false,if_true] at h1
   omega
 | some u=>
  cases fm with
  | none=>
   simp only [Option.isSome_none,Option.isSome_some,Bool.false_eq_true,if_false,if_true] at h1
   omega
  | some v=>
   simp only [Option.isSome_some,if_true] at h1
   obtain ⟨h2,h⟩:=num_cancel (hn.fin u rfl) (hm.fin v rfl) h
   obtain ⟨h3,h4⟩:=ways_cancel (a:=wn) (b:=wm) (by omega) hn.way hm.way h
   rw [h2,h3];exact ⟨rfl,h4⟩
theorem numB_len (n:Int):(Pl.numB n).length≤9:=numB_length n
theorem bytesN_length {n:Nd} (h:n.2.length≤256):(bytesN n).length≤6930:=by
 have key:∀l:List (UInt8 × Int × Nat),(l.flatMap wayB).length≤27*l.length:=by
  intro l
  induction l with
  | nil=>exact Nat.le_refl _
  | cons w l ih=>
   have hwl:(wayB w).length=(Pl.numB (w.1.toNat:Nat)).length+((Pl.numB w.2.1).length+(Pl.numB (w.2.2:Nat)).length):=by
    unfold wayB
    rw [List.length_append,List.length_append]
   rw [List.flatMap_cons,List.length_append,List.length_cons,hwl]
   have h1:=numB_len (w.1.toNat:Nat)
   have h2:=numB_len w.2.1
   have h3:=numB_len (w.2.2:Nat)
   omega
 unfold bytesN
 rw [List.length_append,List.length_append]
 have h1:=numB_len (headN n:Nat)
 have h2:=key n.2
 have h3:(finB n.1).length≤9:=by
  cases n.1 with
  | none=>exact Nat.zero_le _
  | some v=>exact numB_len v
 omega
def Lw (l:List En):Prop:=∀e∈l,0≤e.2∧e.2≤mx
theorem ways_few (l:List En):(ways l).length≤256:=by
 unfold ways
 exact Nat.le_trans (List.length_filterMap_le _ _) (by simp)
theorem least_bd {l:List En} (h:Lw l):0≤least l∧least l≤mx:=by
 by_cases hl:l=[]
 ·subst hl;unfold mx;exact ⟨Int.le_refl _,by show (0:Int)≤_;omega⟩
 ·obtain ⟨e,h1,h2⟩:=least_mem hl
  rw [←h2]
  exact h e h1
theorem behind_lw {l:List En} (h:Lw l) (c:UInt8):Lw (behind l c):=fun e he=>h (c :: e.1,e.2) (mem_behind.1 he)
theorem low_lw {l:List En} (h:Lw l):Lw (low l):=fun e he=>by
 obtain ⟨f,h1,rfl⟩:=List.mem_map.1 he
 have h2:=least_le h1
 have h3:=h f h1
 have h4:=(least_bd h).1
 dsimp only
 omega
theorem way_lw {l:List En} (h:Lw l) {w:UInt8 × Int × List En} (hw:w∈ways l):Lw w.2.2:=by
 obtain ⟨c,m,r⟩:=w
 obtain ⟨_,_,rfl⟩:=mem_ways.1 hw
 exact low_lw (behind_lw h c)
theorem last_bd {l:List En} (h:Lw l) {v:Int} (hv:last l=some v):0≤v∧v≤mx:=by
 cases l with
 | nil=>cases hv
 | cons e l=>
  obtain ⟨t,o⟩:=e
  cases t with
  | nil=>
   obtain rfl:o=v:=by injection hv
   exact h ([],o) (by simp)
  | cons b t=>cases hv
theorem node_ok {M:List (List En)} {l:List En} (hl:Lw l) (hM:(M.length:Int)≤mx):OkN (node M l):=by
 refine ⟨fun v hv=>last_bd hl hv,fun w hw=>?_,?_⟩
 ·obtain ⟨v,hv,rfl⟩:=List.mem_map.1 hw
  have h1:Lw (behind l v.1):=behind_lw hl v.1
  obtain ⟨c,m,r⟩:=v
  obtain ⟨h2,rfl,rfl⟩:=mem_ways.1 hv
  have h3:=least_bd h1
  refine ⟨h3.1,h3.2,?_⟩
  have:at_ M (low (behind l c))≤M.length:=List.findIdx_le_length
  unfold mx at *
  dsimp only
  omega
 ·unfold node
  rw [List.length_map]
  exact ways_few l
theorem node_inj2 {M:List (List En)} {l k:List En} (hl:Rise l) (hk:Rise k) (wl:∀w∈ways l,w.2.2∈M) (wk:∀w∈ways k,w.2.2∈M) (h:node M l=node M k):l=k:=by
 unfold node at h
 injection h with h1 h2
 refine node_tells hl hk h1 ?_
 have key:∀(a b:List (UInt8 × Int × List En)),(∀w∈a,w.2.2∈M)→(∀w∈b,w.2.2∈M)→(a.map fun w=>(w.1,w.2.1,at_ M w.2.2))=(b.map fun w=>(w.1,w.2.1,at_ M w.2.2))→a=b:=by
  intro a
  induction a with
  | nil=>intro b _ _ h;cases b with | nil=>rfl | cons _ _=>cases h
  | cons w a ih=>
   intro b ha hb h
   cases b with
   | nil=>cases h
   | cons v b=>
    simp only [List.map_cons,List.cons.injEq,Prod.mk.injEq] at h
    obtain ⟨⟨e1,e2,e3⟩,e4⟩:=h
    have e5:=at_inj (ha w (by simp)) (hb v (by simp)) e3
    rw [ih b (fun x hx=>ha x (List.mem_cons_of_mem _ hx)) (fun x hx=>hb x (List.mem_cons_of_mem _ hx)) e4]
    obtain ⟨w1,w2,w3⟩:=w
    obtain ⟨v1,v2,v3⟩:=v
    dsimp only at e1 e2 e5
    rw [e1,e2,e5]
 exact key _ _ wl wk h2
def nodeB (M:List (List En)) (l:List En):List UInt8:=bytesN (node M l)
theorem node_append {M K:List (List En)} {l:List En} (h:∀w∈ways l,w.2.2∈M):node (M++K) l=node M l:=by
 unfold node
 congr 1
 exact List.map_congr_left fun w hw=>by rw [at_append (h w hw)]
theorem nodeB_append {M K:List (List En)} {l:List En} (h:∀w∈ways l,w.2.2∈M):nodeB (M++K) l=nodeB M l:=by
 unfold nodeB
 rw [node_append h]
def txt (M:List (List En)):List (List UInt8):=M.map (nodeB M)
theorem txt_length (M:List (List En)):(txt M).length=M.length:=List.length_map _
theorem txt_snoc {M:List (List En)} (h:Net M) {l:List En} (hw:∀w∈ways l,w.2.2∈M):txt (M++[l])=txt M++[nodeB M l]:=by
 unfold txt
 rw [List.map_append]
 congr 1
 ·exact List.map_congr_left fun k hk=>nodeB_append (net_ways h hk)
 ·rw [List.map_singleton,nodeB_append hw]
theorem txt_inj {M:List (List En)} (h:Net M) (hM:(M.length:Int)≤mx) (hlw:∀k∈M,Lw k) {l:List En} (hl:Rise l) (hlwl:Lw l) (hw:∀w∈ways l,w.2.2∈M) {k:List En} (hk:k∈M) (he:nodeB M k=nodeB M l):k=l:=by
 unfold nodeB at he
 have he2:bytesN (node M k)++[]=bytesN (node M l)++[]:=by rw [he]
 obtain ⟨h1,_⟩:=bytesN_inj (node_ok (hlw k hk) hM) (node_ok hlwl hM) he2
 exact node_inj2 (h.good k hk).rise hl (net_ways h hk) hw h1
theorem mem_txt {M:List (List En)} (h:Net M) (hM:(M.length:Int)≤mx) (hlw:∀k∈M,Lw k) {l:List En} (hl:Rise l) (hlwl:Lw l) (hw:∀w∈ways l,w.2.2∈M):nodeB M l∈txt M↔l∈M:=by
 constructor
 ·intro q
  obtain ⟨k,hk,he⟩:=List.mem_map.1 q
  rw [←txt_inj h hM hlw hl hlwl hw hk he]
  exact hk
 ·intro q
  exact List.mem_map.2 ⟨l,q,rfl⟩
theorem go_lw:∀(n:Nat) (l:List En) (M:List (List En)),Lw l→(∀k∈M,Lw k)→∀k∈go n l M,Lw k
 | 0,_,_,_,h=>h
 | n+1,l,M,hl,h=>by
  unfold go
  split
  ·exact h
  ·have key:∀(ws:List (UInt8 × Int × List En)) (M:List (List En)),(∀k∈M,Lw k)→(∀w∈ws,Lw w.2.2)→∀k∈ws.foldl (fun M w=>go n w.2.2 M) M,Lw k:=by
    intro ws
    induction ws with
    | nil=>intro M hM _;exact hM
    | cons w ws ih=>
     intro M hM hw
     rw [List.foldl_cons]
     exact ih _ (go_lw n w.2.2 M (hw w (by simp)) hM) fun v hv=>hw v (List.mem_cons_of_mem _ hv)
   intro k hk
   rcases List.mem_append.1 hk with hk | hk
   ·exact key (ways l) M h (fun w hw=>way_lw hl hw) k hk
   ·rw [List.mem_singleton.1 hk];exact hl
theorem fold_lw {n:Nat}:∀ {ws:List (UInt8 × Int × List En)} {M:List (List En)},(∀k∈M,Lw k)→(∀w∈ws,Lw w.2.2)→∀k∈fold n ws M,Lw k
 | [],_,hM,_=>hM
 | w :: ws,M,hM,hw=>fold_lw (ws:=ws) (M:=go n w.2.2 M) (go_lw n w.2.2 M (hw w (by simp)) hM) fun v hv=>hw v (List.mem_cons_of_mem _ hv)
def rightF:List UInt8→List En→Int
 | _,[]=>0
 | ah,e :: l=>if e.1=[]∨e.2<0 then 1 else if 64<e.1.length then 4 else if lt ah e.1=false then 3 else rightF e.1 l
def right (l:List En):Int:=if 65536<l.length then 8 else rightF [] l
theorem lt_nil {t:List UInt8} (h:t≠[]):lt [] t=true:=by
 cases t with
 | nil=>exact absurd rfl h
 | cons b t=>rfl
structure Fine (l:List En):Prop where
 rise:Rise l
 lw:∀e∈l,0≤e.2
 some:∀e∈l,e.1≠[]∧e.1.length≤64
 few:l.length≤65536
theorem rightF_ok:∀ {l:List En} {ah:List UInt8},rightF ah l=0→l.Pairwise (fun a b=>lt a.1 b.1=true)∧∀e∈l,0≤e.2∧e.1≠[]∧e.1.length≤64∧lt ah e.1=true
 | [],_,_=>⟨.nil,fun _ h=>(by cases h)⟩
 | e :: l,ah,h=>by
  unfold rightF at h
  split at h
  ·cases h
  ·rename_i h1
   split at h
   ·cases h
   ·rename_i h2
    split at h
    ·cases h
    ·rename_i h3
     obtain ⟨a1,a2⟩:=rightF_ok h
     have h3':lt ah e.1=true:=by simpa using h3
     refine ⟨List.pairwise_cons.2 ⟨fun x hx=>(a2 x hx).2.2.2,a1⟩,fun x hx=>?_⟩
     rcases List.mem_cons.1 hx with rfl | hx
     ·refine ⟨by omega,fun q=>h1 (.inl q),by omega,h3'⟩
     ·obtain ⟨b1,b2,b3,b4⟩:=a2 x hx
      exact ⟨b1,b2,b3,lt_trans h3' b4⟩
theorem right_ok {l:List En} (h:right l=0):Fine l:=by
 unfold right at h
 split at h
 ·cases h
 ·obtain ⟨h1,h2⟩:=rightF_ok h
  exact ⟨h1,fun e he=>(h2 e he).1,fun e he=>⟨(h2 e he).2.1,(h2 e he).2.2.1⟩,by omega⟩
def bytes (l:List En):List UInt8:=Pl.numB ((nodes l).length:Nat)++(Pl.numB (least l)++(txt (nodes l)).flatMap id)
def built (l:List En):List UInt8:=if right l=0 then bytes l else []
end F12.Fs
namespace F12.Fs
open Go.RowKit
def past (s:List UInt8):List UInt8:=s.drop (Pl.rdCount s).2.1.toNat
def cE (s:List UInt8):Int:=(Pl.rdCount s).2.2
def cN (s:List UInt8):Int:=(Pl.rdCount s).1
def rdW (n:Nat) (s:List UInt8):Int × (UInt8 × Int × Nat) × List UInt8:=
 if cE s≠0 then (cE s,(0,0,0),[])
 else if cE (past s)≠0 then (cE (past s),(0,0,0),[])
 else if cE (past (past s))≠0 then (cE (past (past s)),(0,0,0),[])
 else if 255<cN s∨(n:Int)≤cN (past (past s)) then (3,(0,0,0),[])
 else (0,(UInt8.ofNat (cN s).toNat,cN (past s),(cN (past (past s))).toNat),past (past (past s)))
def rdWs:Nat→Nat→List UInt8→List (UInt8 × Int × Nat)→Int × List (UInt8 × Int × Nat) × List UInt8
 | 0,_,s,acc=>(0,acc,s)
 | k+1,n,s,acc=>if (rdW n s).1≠0 then ((rdW n s).1,[],[]) else rdWs k n (rdW n s).2.2 (acc++[(rdW n s).2.1])
def rdN (n:Nat) (s:List UInt8):Int × Nd × List UInt8:=
 if cE s≠0 then (cE s,(none,[]),[])
 else if 513<cN s then (3,(none,[]),[])
 else if cN s%2=1 then
  if cE (past s)≠0 then (cE (past s),(none,[]),[])
  else ((rdWs ((cN s).toNat/2) n (past (past s)) []).1,(some (cN (past s)),(rdWs ((cN s).toNat/2) n (past (past s)) []).2.1),(rdWs ((cN s).toNat/2) n (past (past s)) []).2.2)
 else ((rdWs ((cN s).toNat/2) n (past s) []).1,(none,(rdWs ((cN s).toNat/2) n (past s) []).2.1),(rdWs ((cN s).toNat/2) n (past s) []).2.2)
def upW (c:UInt8) (m:Int) (l:List En):List En:=l.map fun e=>(c :: e.1,wrap64 (e.2+m))
def ofEnd:Option Int→List En
 | some v=>[([],v)]
 | none=>[]
def ent (T:List (List En)) (n:Nd):List En:=ofEnd n.1++n.2.flatMap fun w=>upW w.1 w.2.1 (T.getD w.2.2 [])
def Wide (l:List En):Prop:=65536<l.length∨64<deep l
instance (l:List En):Decidable (Wide l):=by unfold Wide;infer_instance
def rdNs:Nat→List UInt8→List Nd→List (List En)→Int × (List Nd × List (List En)) × List UInt8
 | 0,s,N,T=>(0,(N,T),s)
 | k+1,s,N,T=>
  if (rdN N.length s).1≠0 then ((rdN N.length s).1,([],[]),[])
  else if Wide (ent T (rdN N.length s).2.1) then (3,([],[]),[])
  else rdNs k (rdN N.length s).2.2 (N++[(rdN N.length s).2.1]) (T++[ent T (rdN N.length s).2.1])
def addW (m:Int) (l:List En):List En:=l.map fun e=>(e.1,wrap64 (e.2+m))
def rdAll (s:List UInt8):Int × (List Nd × List (List En)) × List UInt8:=
 if cE s≠0 then (cE s,([],[]),[])
 else if cE (past s)≠0 then (cE (past s),([],[]),[])
 else rdNs (cN s).toNat (past (past s)) [] []
def allOf (s:List UInt8):List En:=addW (cN (past s)) ((rdAll s).2.1.2.getLast?.getD [])
def openE (s:List UInt8):Int:=
 if (rdAll s).1≠0 then (rdAll s).1
 else if (rdAll s).2.2≠[] then 5
 else if right (allOf s)=0∧bytes (allOf s)=s then 0 else 3
theorem count_num {n:Int} (h:0≤n∧n≤mx) (r:List UInt8):Pl.rdCount (Pl.numB n++r)=(n,((Pl.numB n).length:Int),0):=by
 unfold mx at h
 obtain ⟨m,rfl⟩:=Int.eq_ofNat_of_zero_le h.1
 exact Iv.count_back m r (by omega)
theorem past_num {n:Int} (h:0≤n∧n≤mx) (r:List UInt8):past (Pl.numB n++r)=r:=by
 unfold past
 rw [count_num h]
 show List.drop ((Pl.numB n).length:Int).toNat _=_
 rw [Int.toNat_natCast,List.drop_left]
theorem cE_num {n:Int} (h:0≤n∧n≤mx) (r:List UInt8):cE (Pl.numB n++r)=0:=by unfold cE;rw [count_num h]
theorem cN_num {n:Int} (h:0≤n∧n≤mx) (r:List UInt8):cN (Pl.numB n++r)=n:=by unfold cN;rw [count_num h]
theorem rdW_back {n:Nat} {w:UInt8 × Int × Nat} (h:0≤w.2.1∧w.2.1≤mx∧(w.2.2:Int)≤mx) (hn:w.2.2<n) (r:List UInt8):rdW n (wayB w++r)=(0,w,r):=by
 obtain ⟨c,o,t⟩:=w
 have hc:=c.toNat_lt
 have h1:(0:Int)≤((c.toNat:Nat):Int)∧((c.toNat:Nat):Int)≤mx:=nat_mx (by unfold mx;omega)
 have h2:0≤o∧o≤mx:=⟨h.1,h.2.1⟩
 have h3:(0:Int)≤((t:Nat):Int)∧((t:Nat):Int)≤mx:=nat_mx h.2.2
 unfold wayB
 rw [List.append_assoc,List.append_assoc]
 dsimp only at hn ⊢
 unfold rdW
 rw [cE_num h1,past_num h1,cE_num h2,past_num h2,cE_num h3,past_num h3,cN_num h1,cN_num h2,cN_num h3]
 rw [if_neg (by omega),if_neg (by omega),if_neg (by omega),if_neg (by omega)]
 simp
theorem rdWs_back:∀ {ws:List (UInt8 × Int × Nat)} {n:Nat} (acc:List (UInt8 × Int × Nat)) (r:List UInt8),(∀w∈ws,0≤w.2.1∧w.2.1≤mx∧(w.2.2:Int)≤mx)→(∀w∈ws,w.2.2<n)→rdWs ws.length n (ws.flatMap wayB++r) acc=(0,acc++ws,r)
 | [],_,acc,r,_,_=>by simp [rdWs]
 | w :: ws,n,acc,r,h,hn=>by
  rw [List.length_cons,List.flatMap_cons,List.append_assoc]
  unfold rdWs
  rw [rdW_back (h w (by simp)) (hn w (by simp)),if_neg (by simp),rdWs_back _ _ (fun v hv=>h v (List.mem_cons_of_mem _ hv)) (fun v hv=>hn v (List.mem_cons_of_mem _ hv))]
  simp
theorem rdN_back {n:Nat} {d:Nd} (h:OkN d) (hn:∀w∈d.2,w.2.2<n) (r:List UInt8):rdN n (bytesN d++r)=(0,d,r):=by
 have h0:=nat_mx (headN_mx h)
 have hf:=h.few
 obtain ⟨f,ws⟩:=d
 unfold bytesN
 rw [List.append_assoc,List.append_assoc]
 dsimp only at hn hf ⊢
 unfold rdN
 rw [cE_num h0,past_num h0,cN_num h0,if_neg (by omega)]
 unfold headN
 cases f with
 | none=>
  simp only [Option.isSome_none,Bool.false_eq_true,if_false]
  rw [if_neg (by omega),if_neg (by omega),show ((2*ws.length+0:Nat):Int).toNat/2=ws.length by omega]
  show ((rdWs ws.length n (ws.flatMap wayB++r) []).1,(none,(rdWs ws.length n (ws.flatMap wayB++r) []).2.1),(rdWs ws.length n (ws.flatMap wayB++r) []).2.2)=_
  rw [rdWs_back [] r h.way hn]
  rfl
 | some v=>
  simp only [Option.isSome_some,if_true]
  have h1:=h.fin v rfl
  rw [if_neg (by omega),if_pos (by omega),show ((2*ws.length+1:Nat):Int).toNat/2=ws.length by omega]
  show (if cE (Pl.numB v++(ws.flatMap wayB++r))≠0 then (cE (Pl.numB v++(ws.flatMap wayB++r)),(none,[]),[]) else ((rdWs ws.length n (past (Pl.numB v++(ws.flatMap wayB++r))) []).1,(some (cN (Pl.numB v++(ws.flatMap wayB++r))),(rdWs ws.length n (past (Pl.numB v++(ws.flatMap wayB++r))) []).2.1),(rdWs ws.length n (past (Pl.numB v++(ws.flatMap wayB++r))) []).2.2))=_
  rw [cE_num h1,past_num h1,cN_num h1,if_neg (by omega),rdWs_back [] r h.way hn]
  rfl
theorem wrap_id {a:Int} (h:0≤a∧a≤mx):wrap64 a=a:=by
 unfold mx at h
 unfold wrap64
 omega
theorem ent_node {M:List (List En)} (hM:Net M) {i:Nat} {l:List En} (hl:M[i]?=some l) (hw:Lw l):ent (M.take i) (node M l)=l:=by
 have hr:Rise l:=(hM.good l (List.mem_of_getElem? hl)).rise
 conv=>rhs;rw [told hr]
 unfold ent node
 dsimp only
 congr 1
 ·rw [List.flatMap_map]
  have key:∀ws:List (UInt8 × Int × List En),(∀w∈ws,w∈ways l)→(ws.flatMap fun w=>upW w.1 w.2.1 ((M.take i).getD (at_ M w.2.2) []))=ws.flatMap fun w=>up w.1 w.2.1 w.2.2:=by
   intro ws
   induction ws with
   | nil=>intro _;rfl
   | cons w ws ih=>
    intro h
    rw [List.flatMap_cons,List.flatMap_cons,ih fun v hv=>h v (List.mem_cons_of_mem _ hv)]
    congr 1
    have hww:=h w (by simp)
    have hin:=hM.ahead i l hl w hww
    have hlt:=at_take hin
    have hmem:w.2.2∈M:=List.mem_of_mem_take hin
    have hget:(M.take i).getD (at_ M w.2.2) []=w.2.2:=by
     rw [List.getD_eq_getElem?_getD,List.getElem?_take_of_lt hlt,List.getElem?_eq_getElem (at_lt hmem),at_get hmem]
     rfl
    rw [hget]
    unfold upW up
    refine List.map_congr_left fun e he=>?_
    have:(w.1 :: e.1,e.2+w.2.1)∈l:=by
     rw [told hr]
     exact List.mem_append_right _ (List.mem_flatMap.2 ⟨w,hww,List.mem_map.2 ⟨e,he,rfl⟩⟩)
    rw [wrap_id (hw _ this)]
  exact key (ways l) fun _ h=>h
theorem rdNs_back {M:List (List En)} (hM:Net M) (hlen:(M.length:Int)≤mx) (hlw:∀k∈M,Lw k) (hs:∀k∈M,¬Wide k):∀(j i:Nat) (r:List UInt8),i+j=M.length →
  rdNs j (((M.drop i).map (nodeB M)).flatMap id++r) ((M.take i).map (node M)) (M.take i)=(0,(M.map (node M),M),r)
 | 0,i,r,h=>by
  have h1:M.drop i=[]:=List.drop_of_length_le (by omega)
  have h2:M.take i=M:=List.take_of_length_le (by omega)
  rw [h1,h2]
  rfl
 | j+1,i,r,h=>by
  have hi:i<M.length:=by omega
  have hl:M[i]?=some M[i]:=List.getElem?_eq_getElem hi
  have hmem:=List.getElem_mem hi
  have hd:M.drop i=M[i] :: M.drop (i+1):=List.drop_eq_getElem_cons hi
  have hk:(M.take i).length=i:=by rw [List.length_take];omega
  rw [hd,List.map_cons,List.flatMap_cons,List.append_assoc]
  unfold rdNs
  rw [List.length_map,hk]
  have hb:=rdN_back (n:=i) (node_ok (M:=M) (hlw _ hmem) hlen) (fun w hw=>by
   obtain ⟨v,hv,rfl⟩:=List.mem_map.1 hw
   exact at_take (hM.ahead i _ hl v hv)) (((M.drop (i+1)).map (nodeB M)).flatMap id++r)
  have hb2:rdN i (id (nodeB M M[i])++(((M.drop (i+1)).map (nodeB M)).flatMap id++r))=(0,node M M[i],((M.drop (i+1)).map (nodeB M)).flatMap id++r):=hb
  rw [hb2,if_neg (by simp),ent_node hM hl (hlw _ hmem),if_neg (hs _ hmem)]
  have e1:(M.take i).map (node M)++[node M M[i]]=(M.take (i+1)).map (node M):=by
   rw [List.take_succ_eq_append_getElem hi,List.map_append]
   rfl
  have e2:M.take i++[M[i]]=M.take (i+1):=(List.take_succ_eq_append_getElem hi).symm
  rw [e1,e2]
  exact rdNs_back hM hlen hlw hs j (i+1) r (by omega)
theorem behind_length (l:List En) (c:UInt8):(behind l c).length≤l.length:=List.length_filterMap_le _ _
theorem go_size:∀(n:Nat) (l:List En) (M:List (List En)),∀k∈go n l M,k∈M∨k.length≤l.length
 | 0,_,_=>fun k h=>.inl h
 | n+1,l,M=>fun k hk=>by
  unfold go at hk
  split at hk
  ·exact .inl hk
  ·rcases List.mem_append.1 hk with hk | hk
   ·have key:∀(ws:List (UInt8 × Int × List En)) (M:List (List En)),(∀w∈ws,w∈ways l)→∀k∈ws.foldl (fun M w=>go n w.2.2 M) M,k∈M∨k.length≤l.length:=by
     intro ws
     induction ws with
     | nil=>intro M _ k hk;exact .inl hk
     | cons w ws ih=>
      intro M hw k hk
      rw [List.foldl_cons] at hk
      rcases ih _ (fun v hv=>hw v (List.mem_cons_of_mem _ hv)) k hk with q | q
      ·rcases go_size n w.2.2 M k q with q | q
       ·exact .inl q
       ·have h1:=hw w (by simp)
        obtain ⟨c,m,r⟩:=w
        obtain ⟨_,_,rfl⟩:=mem_ways.1 h1
        have h2:=behind_length l c
        dsimp only at q
        unfold low at q
        rw [List.length_map] at q
        exact .inr (by omega)
      ·exact .inr q
    exact key (ways l) M (fun _ h=>h) k hk
   ·rw [List.mem_singleton.1 hk];exact .inr (Nat.le_refl _)
theorem nodes_size {l:List En}:∀k∈nodes l,k.length≤l.length∧deep k≤deep l:=fun k hk=>by
 unfold nodes at hk
 split at hk
 ·cases hk
 ·refine ⟨?_,?_⟩
  ·rcases go_size _ _ _ k hk with q | q
   ·cases q
   ·unfold low at q;rw [List.length_map] at q;exact q
  ·rcases go_net.go_deep 0 [] _ _ _ k hk with q | q
   ·cases q
   ·rw [deep_low] at q;exact q
theorem nodes_lw {l:List En} (h:Lw l):∀k∈nodes l,Lw k:=fun k hk=>by
 unfold nodes at hk
 split at hk
 ·cases hk
 ·exact go_lw _ _ _ (low_lw h) (fun _ q=>by cases q) k hk
theorem fine_total {l:List En} (h:Fine l):total l≤4194304:=by
 have key:∀k:List En,(∀e∈k,e.1.length≤64)→total k≤64*k.length:=by
  intro k
  induction k with
  | nil=>intro _;exact Nat.le_refl _
  | cons e k ih=>
   intro hk
   have h1:=ih fun x hx=>hk x (List.mem_cons_of_mem _ hx)
   have h2:=hk e (by simp)
   unfold total at *
   rw [List.map_cons,List.sum_cons,List.length_cons]
   omega
 have h1:=key l fun e he=>(h.some e he).2
 have h2:=h.few
 omega
theorem nodes_mx {l:List En} (h:Fine l):(nodes l).length≤4194305:=by
 have h1:=nodes_length h.rise
 have h2:=fine_total h
 omega
theorem fine_lw {l:List En} (h:Fine l) (hm:∀e∈l,e.2≤mx):Lw l:=fun e he=>⟨h.lw e he,hm e he⟩
theorem rd_bytes {l:List En} (h:Fine l) (hm:∀e∈l,e.2≤mx):rdAll (bytes l)=(0,((nodes l).map (node (nodes l)),nodes l),[])∧cN (past (bytes l))=least l:=by
 have hlw:=fine_lw h hm
 have h1:=nodes_mx h
 have h2:(0:Int)≤((nodes l).length:Int)∧((nodes l).length:Int)≤mx:=nat_mx (by unfold mx;omega)
 have h3:=least_bd hlw
 have hw:∀k∈nodes l,¬Wide k:=fun k hk q=>by
  obtain ⟨a1,a2⟩:=nodes_size k hk
  have a3:deep l≤64:=deep_of fun e he=>(h.some e he).2
  have a4:=h.few
  unfold Wide at q
  omega
 have hb:=rdNs_back (nodes_net h.rise) h2.2 (nodes_lw hlw) hw (nodes l).length 0 [] (by omega)
 rw [List.drop_zero,List.append_nil,List.take_zero] at hb
 unfold bytes rdAll
 rw [cE_num h2,past_num h2,cE_num h3,past_num h3,cN_num h2,cN_num h3,if_neg (by omega),if_neg (by omega),Int.toNat_natCast]
 exact ⟨hb,rfl⟩
theorem all_bytes {l:List En} (h:Fine l) (hm:∀e∈l,e.2≤mx):allOf (bytes l)=l:=by
 obtain ⟨h1,h2⟩:=rd_bytes h hm
 have hlw:=fine_lw h hm
 unfold allOf
 rw [h1,h2]
 dsimp only
 by_cases hl:l=[]
 ·subst hl
  have:nodes []=[]:=rfl
  rw [this]
  rfl
 ·obtain ⟨K,hK⟩:=nodes_last hl
  rw [hK,List.getLast?_append]
  show addW (least l) (low l)=l
  have:addW (least l) (low l)=add (least l) (low l):=by
   unfold addW add
   refine List.map_congr_left fun e he=>?_
   obtain ⟨f,h3,rfl⟩:=List.mem_map.1 he
   have h4:=hlw f h3
   rw [wrap_id (by dsimp only;omega)]
  rw [this,up_low]
theorem open_bytes {l:List En} (h:right l=0) (hm:∀e∈l,e.2≤mx):openE (bytes l)=0:=by
 have hf:=right_ok h
 obtain ⟨h1,h2⟩:=rd_bytes hf hm
 unfold openE
 rw [h1,all_bytes hf hm]
 rw [if_neg (by simp),if_neg (by simp),if_pos ⟨h,rfl⟩]
theorem wrap_mx (a:Int):wrap64 a≤mx:=by unfold wrap64 mx;omega
theorem all_mx (s:List UInt8):∀e∈allOf s,e.2≤mx:=fun e he=>by
 obtain ⟨f,_,rfl⟩:=List.mem_map.1 he
 exact wrap_mx _
theorem open_full {s:List UInt8} (h:right (allOf s)=0∧bytes (allOf s)=s):(rdAll s).2.1.2=nodes (allOf s)∧(rdAll s).2.1.1=(nodes (allOf s)).map (node (nodes (allOf s)))∧cN (past s)=least (allOf s)∧∀k∈(rdAll s).2.1.2,k≠[]:=by
 have hf:=right_ok h.1
 obtain ⟨h1,h2⟩:=rd_bytes hf (all_mx s)
 rw [h.2] at h1 h2
 have hn:=nodes_net hf.rise
 have e:∀k∈nodes (allOf s),k≠[]:=fun k hk=>(hn.good k hk).ne
 rw [h1]
 exact ⟨rfl,rfl,h2,e⟩
end F12.Fs
namespace F12
open Go.RowKit Go.Maps
section
variable {P:Program} (w:World)
end
namespace Ap
end Ap
section
variable (w:World) {ops:Array Oper} {rest:List Oper} {o:Oper} {a:Act} {Q:Exit→Act→World→Prop}
end
def bs (l:List UInt8):ByteArray:=⟨l.toArray⟩
theorem bs_data (l:List UInt8):(bs l).data.toList=l:=by simp [bs]
theorem bs_list (l:List UInt8):(bs l).toList=l:=by rw [ByteArray.toList_eq,bs_data]
theorem bs_size (l:List UInt8):(bs l).size=l.length:=by simp [bs,ByteArray.size]
theorem bs_of (s:ByteArray):bs s.data.toList=s:=by cases s;simp [bs]
theorem bs_append (a b:List UInt8):bs a++bs b=bs (a++b):=by
 apply mk_of
 rw [ByteArray.data_append]
 simp [bs]
theorem bs_get (l:List UInt8) (i:Nat) (_:i<(bs l).size) (h':i<l.length):(bs l)[i]=l[i]:=by
 show (bs l).data[i]=_
 simp [bs]
theorem Tryz.infoE:(Tryz.prog.info? 29).map (fun i=>(i.zero,i.size,i.bytes))=some (some (.agg #[.string ByteArray.empty,.int .i64 0]),2,24):=by kernel_rfl
theorem Tryz.infoS:(Tryz.prog.info? 9).map (fun i=>(i.zero,i.size,i.bytes))=some (some (.string ByteArray.empty),1,16):=by kernel_rfl
def entV (l:List Fs.En):List Value:=l.flatMap fun x=>[.string (bs x.1),.int .i64 x.2]
theorem entV_length (l:List Fs.En):(entV l).length=l.length*2:=by
 induction l with
 | nil=>rfl
 | cons x t ih=>
  show (_ :: _ :: entV t).length=_
  simp only [List.length_cons,ih]
  omega
theorem entV_s (l:List Fs.En):∀i (h:i<l.length),(entV l)[i*2]?=some (.string (bs l[i].1)):=by
 induction l with
 | nil=>intro i h;cases h
 | cons x t ih=>
  intro i h
  cases i with
  | zero=>rfl
  | succ i=>
   simp only [List.length_cons,Nat.add_lt_add_iff_right] at h
   have e:(i+1)*2=i*2+1+1:=by omega
   rw [e]
   exact ih i h
theorem entV_n (l:List Fs.En):∀i (h:i<l.length),(entV l)[i*2+1]?=some (.int .i64 l[i].2):=by
 induction l with
 | nil=>intro i h;cases h
 | cons x t ih=>
  intro i h
  cases i with
  | zero=>rfl
  | succ i=>
   simp only [List.length_cons,Nat.add_lt_add_iff_right] at h
   have e:(i+1)*2+1=i*2+1+1+1:=by omega
   rw [e]
   exact ih i h
theorem entV_snoc (l:List Fs.En) (x:Fs.En):entV l++[.string (bs x.1),.int .i64 x.2]=entV (l++[x]):=by simp [entV]
def EnC (w:World) (g o:Nat) (l:List Fs.En):Prop:=∀i (_:i<l.length),w.cell? ⟨g,o+i*2,none⟩=some (.string (bs l[i].1))∧w.cell? ⟨g,o+i*2+1,none⟩=some (.int .i64 l[i].2)
def EnS (w:World) (v:Value) (l:List Fs.En):Prop:=
 ∃a cap,v=.slice a l.length cap∧l.length≤cap∧cap≤9223372036854775807∧(0<l.length→∃g o,a=some ⟨g,o,none⟩∧g<w.heap.size∧EnC w g o l)
theorem EnC.same {w w':World} {g o:Nat} {l:List Fs.En} (h:EnC w g o l) (e:w'.heap[g]?=w.heap[g]?):EnC w' g o l:=fun i hi=>
 ⟨(World.cell?_of_block (a:=⟨g,o+i*2,none⟩) e).trans (h i hi).1,(World.cell?_of_block (a:=⟨g,o+i*2+1,none⟩) e).trans (h i hi).2⟩
theorem EnC.below {w w':World} {B g o:Nat} {l:List Fs.En} (h:EnC w g o l) (hb:Below B w w') (hg:g<B):EnC w' g o l:=h.same (hb.block g hg)
theorem EnS.below {w w':World} {B:Nat} {v:Value} {l:List Fs.En} (h:EnS w v l) (hb:Below B w w') (hB:w.heap.size≤B):EnS w' v l:=by
 obtain ⟨a,cap,h1,h2,h3,h4⟩:=h
 refine ⟨a,cap,h1,h2,h3,fun h0=>?_⟩
 obtain ⟨g,o,h5,h6,h7⟩:=h4 h0
 exact ⟨g,o,h5,Nat.lt_of_lt_of_le h6 hb.size,h7.below hb (Nat.lt_of_lt_of_le h6 hB)⟩
theorem EnC.drop {w:World} {g o:Nat} {l:List Fs.En} (h:EnC w g o l) (p:Nat):EnC w g (o+p*2) (l.drop p):=fun i hi=>by
 rw [List.length_drop] at hi
 have:=h (p+i) (by omega)
 rw [List.getElem_drop,show o+p*2+i*2=o+(p+i)*2 by omega]
 exact this
theorem EnC.take {w:World} {g o:Nat} {l:List Fs.En} (h:EnC w g o l) (p:Nat):EnC w g o (l.take p):=fun i hi=>by
 rw [List.length_take] at hi
 rw [List.getElem_take]
 exact h i (by omega)
def OwnE (w:World) (B:Nat) (v:Value) (l:List Fs.En):Prop:=w.ownsRow B 29 2 v l.length (entV l)
theorem OwnE.opened {w:World} {B:Nat} {v:Value} {l:List Fs.En} (h:OwnE w B v l):∃g a cap,v=.slice a l.length cap∧l.length≤cap∧cap≤9223372036854775807∧(0<l.length→a=some ⟨g,0,none⟩∧g<w.heap.size)∧B≤g∧(∀k,v.ownBlock=some k→k=g) ∧
  EnC w g 0 l∧(0<l.length→∀j,w.frozen? ⟨g,j,none⟩=false):=by
 rcases h.2 with ⟨rfl,h0⟩ | ⟨g,cap,cur,rfl,hg,hh,hnc,hcp,hcs,htake⟩
 ·exact ⟨B,none,0,by rw [h0],by omega,by omega,fun h=>by omega,Nat.le_refl _,fun k hk=>(by cases hk),fun i hi=>by omega,fun h=>by omega⟩
 ·have hown:w.ownsRow B 29 2 (.slice (some ⟨g,0,none⟩) l.length cap) l.length (entV l):=h
  refine ⟨g,_,cap,rfl,hnc,by unfold maxLen at hcp;omega,fun _=>⟨rfl,(hown.lt g rfl).2⟩,hg,fun k hk=>by simpa [Value.ownBlock] using hk.symm,fun i hi=>?_,fun _ j=>by simp [World.frozen?,hh]⟩
  have e:∀j u,(entV l)[j]?=some u→w.cell? ⟨g,j,none⟩=some u:=fun j u hj=>by
   have h:=hown.cells (g:=g) rfl j u hj
   rw [Addr.add_lit,Nat.zero_add] at h
   exact h
  rw [Nat.zero_add]
  exact ⟨e _ _ (entV_s l i hi),e _ _ (entV_n l i hi)⟩
theorem OwnE.ens {w:World} {B:Nat} {v:Value} {l:List Fs.En} (h:OwnE w B v l):EnS w v l:=by
 obtain ⟨g,a,cap,h1,h2,h3,h4,_,_,h5,_⟩:=h.opened
 exact ⟨a,cap,h1,h2,h3,fun h0=>⟨g,0,(h4 h0).1,(h4 h0).2,h5⟩⟩
theorem ownE_nil (w:World) (B:Nat):OwnE w B (.slice none 0 0) []:=World.ownsRow_nil _ _ _ _
end F12
namespace F12
open Go.RowKit
theorem bs_empty (l:List UInt8):(bs l).toList.isEmpty=l.isEmpty:=by rw [bs_list]
theorem u8_lt (a b:UInt8):decide (a<b)=decide (a.toNat<b.toNat):=rfl
theorem less_lt:∀a b:List UInt8,Op.bytesLess a b=Fs.lt a b
 | [],[]=>rfl
 | [],_ :: _=>rfl
 | _ :: _,[]=>rfl
 | a :: s,b :: t=>by
  show (decide (a<b)||(a==b&&Op.bytesLess s t))=(decide (a.toNat<b.toNat)||(decide (a=b)&&Fs.lt s t))
  rw [less_lt s t,u8_lt]
  congr 1
theorem leq_lt (a b:List UInt8):(Op.bytesLess a b||a==b) = !Fs.lt b a:=by
 rw [less_lt]
 by_cases h:a=b
 ·subst h
  rw [Fs.lt_irrefl]
  simp
 ·have h1:(a==b)=false:=by simpa using h
  rw [h1,Bool.or_false]
  cases h2:Fs.lt a b
  ·cases h3:Fs.lt b a
   ·exfalso
    have tri:∀a b:List UInt8,Fs.lt a b=false→Fs.lt b a=false→a=b:=by
     intro a
     induction a with
     | nil=>intro b h1 h2;cases b with | nil=>rfl | cons _ _=>cases h1
     | cons x a ih=>
      intro b h1 h2
      cases b with
      | nil=>cases h2
      | cons y b=>
       simp only [Fs.lt,Bool.or_eq_false_iff,decide_eq_false_iff_not,Bool.and_eq_false_iff] at h1 h2
       have e:x=y:=UInt8.toNat_inj.1 (by omega)
       subst e
       rw [ih b (h1.2.resolve_left (fun q=>q rfl)) (h2.2.resolve_left (fun q=>q rfl))]
    exact h (tri a b h2 h3)
   ·rfl
  ·rw [Fs.lt_asymm h2];rfl
theorem drop_en {l:List Fs.En} {k:Nat} (h:k<l.length):l.drop k=l[k] :: l.drop (k+1):=List.drop_eq_getElem_cons h
theorem rightF_cons (ah:List UInt8) (e:Fs.En) (l:List Fs.En):Fs.rightF ah (e :: l)=if e.1=[]∨e.2<0 then 1 else if 64<e.1.length then 4 else if Fs.lt ah e.1=false then 3 else Fs.rightF e.1 l:=rfl
theorem check_any (w:World) (v:Value) (l:List Fs.En) (h:EnS w v l):
  Calls Tryz.prog 39 #[v] w fun e w'=>e=.returned (.int .i64 (Fs.right l))∧Below w.heap.size w w':=by
 obtain ⟨a,cap,rfl,hx,hx',hu⟩:=h
 have HU:=lh hu
 obtain ⟨n,hn⟩:∃n,n=l.length:=⟨_,rfl⟩
 have HN:=lh hn
 rw [←hn] at hx ⊢
 clear hu
 by_cases hbig:65536<n
 ·have hR:Hid (Fs.right l=8):=by show _=_;unfold Fs.right;rw [if_pos (by omega)]
  have i1:(65536:Int)<(n:Int):=by omega
  clear hn hbig
  go_enter Tryz.func39,Tryz.ntmps39
  go_wp2_with fail
  go_ret
  exact ⟨by rw [hR.out];rfl,Below.refl _ _⟩
 ·have hR:Hid (Fs.right l=Fs.rightF [] l):=by show _=_;unfold Fs.right;rw [if_neg (by omega)]
  have i1:¬(65536:Int)<(n:Int):=by omega
  have hn2:n≤65536:=by omega
  clear hn hbig
  go_enter Tryz.func39,Tryz.ntmps39
  go_wp2_with fail
  go_loopg [3,11] n (fun g av i wx=>∃(k:Nat) (A:List UInt8),k≤n∧g=n-k∧i=.int .i64 k∧av=.string (bs A)∧Hid (Fs.rightF A (l.drop k)=Fs.rightF [] l)∧Below w.heap.size w wx)
  case atStart=>exact ⟨0,[],Nat.zero_le _,rfl,rfl,rfl,by show _=_;rw [List.drop_zero],Below.refl _ _⟩
  case round=>
   obtain ⟨k,A,hk,rfl,rfl,rfl,hS,hbel⟩:=hrel
   by_cases hkn:k<n
   ·have i2:(k:Int)<(n:Int):=by omega
    have kx:k<l.length:=by rw [←HN.out];exact hkn
    obtain ⟨g,o,rfl,hg,hcu⟩:=HU.out (by omega)
    have c1:wr.cell? ⟨g,o+k*2,none⟩=some (.string (bs l[k].1)):=((hcu.below hbel hg) k kx).1
    have c2:wr.cell? ⟨g,o+k*2+1,none⟩=some (.int .i64 l[k].2):=((hcu.below hbel hg) k kx).2
    have HBE:=lh hbel
    have hS2:=hS.out
    rw [drop_en kx] at hS2
    rw [rightF_cons] at hS2
    have HS2:=lh hS2
    have hsz:=bs_size l[k].1
    have hem:=bs_empty l[k].1
    have hcmp:=leq_lt l[k].1 A
    rw [←bs_list l[k].1,←bs_list A,bs_list l[k].1,bs_list A] at hcmp
    have hcmp2:(Op.bytesLess (bs l[k].1).toList (bs A).toList||(bs l[k].1).toList==(bs A).toList) = !Fs.lt A l[k].1:=by rw [bs_list,bs_list];exact hcmp
    clear hS hS2 hbel hcu hcmp
    generalize l[k].1=t at *
    generalize l[k].2=x at *
    have HBA:=lh (HBE.out.alloc HBE.out.size (.cells #[.string (bs t),.int .i64 x] 29))
    by_cases ht:t=[]
    ·have he:(bs t).toList.isEmpty=true:=by rw [hem,ht];rfl
     have hfin:Hid (Fs.right l=1):=by show _=_;rw [hR.out,←HS2.out,if_pos (.inl ht)]
     clear ht hem hcmp2 hsz
     generalize bs t=T at *
     go_wp2_with fail
     go_ret
     exact ⟨by rw [hfin.out];rfl,HBA.out⟩
    ·have he:(bs t).toList.isEmpty=false:=by rw [hem];cases t with | nil=>exact absurd rfl ht | cons _ _=>rfl
     by_cases hx0:x<0
     ·have hfin:Hid (Fs.right l=1):=by show _=_;rw [hR.out,←HS2.out,if_pos (.inr hx0)]
      clear ht hem hcmp2 hsz
      generalize bs t=T at *
      go_wp2_with fail
      go_ret
      exact ⟨by rw [hfin.out];rfl,HBA.out⟩
     ·have hS3:=HS2.out
      rw [if_neg (by rintro (q | q);exact ht q;exact hx0 q)] at hS3
      by_cases h64:64<t.length
      ·rw [if_pos h64] at hS3
       have i3:(64:Int)<((bs t).size:Int):=by rw [hsz];omega
       have hfin:Hid (Fs.right l=4):=by show _=_;rw [hR.out,←hS3]
       clear ht hem hcmp2 hsz hS3 h64
       generalize bs t=T at *
       go_wp2_with fail
       go_ret
       exact ⟨by rw [hfin.out];rfl,HBA.out⟩
      ·rw [if_neg h64] at hS3
       have i3:¬(64:Int)<((bs t).size:Int):=by rw [hsz];omega
       cases hlt:Fs.lt A t
       ·rw [if_pos hlt] at hS3
        rw [hlt] at hcmp2
        have hfin:Hid (Fs.right l=3):=by show _=_;rw [hR.out,←hS3]
        clear ht hem hsz hS3 h64 hlt
        generalize bs t=T at *
        generalize bs A=U at *
        go_wp2_with fail
        go_ret
        exact ⟨by rw [hfin.out];rfl,HBA.out⟩
       ·rw [if_neg (by rw [hlt];simp)] at hS3
        rw [hlt] at hcmp2
        have HS3:=lh hS3
        obtain ⟨T,hT⟩:∃T,bs t=T:=⟨_,rfl⟩
        have HT:=lh hT
        rw [hT] at he hcmp2 i3 c1 HBA
        clear ht hem hsz hS3 h64 hlt hT
        generalize bs A=U at *
        go_wp2_with fail
        go_roundg (n-(k+1))
        case rel=>exact ⟨k+1,t,by omega,rfl,by go_num,by rw [HT.out],HS3.out,HBA.out⟩
        case measure=>omega
   ·obtain rfl:k=n:=by omega
    have hd:l.drop k=[]:=List.drop_of_length_le (by rw [←HN.out];exact Nat.le_refl _)
    have hS2:=hS.out
    rw [hd] at hS2
    have hfin:Hid (Fs.right l=0):=by show _=_;rw [hR.out,←hS2];rfl
    have HBE:=lh hbel
    clear hS hS2 hd hbel
    go_wp2_with fail
    go_ret
    exact ⟨by rw [hfin.out];rfl,HBE.out⟩
end F12
namespace F12
open Go.RowKit
theorem right_any (w:World) (v:Value) (l:List Fs.En) (h:EnS w v l):
  Calls Tryz.prog 19 #[v] w fun e w'=>e=.returned (.int .i64 (Fs.right l))∧Below w.heap.size w w':=by
 obtain ⟨a,cap,rfl,hx,hx',hu⟩:=h
 have HU:=lh hu
 obtain ⟨n,hn⟩:∃n,n=l.length:=⟨_,rfl⟩
 have HN:=lh hn
 rw [←hn] at hx ⊢
 clear hu
 by_cases hbig:65536<n
 ·have hR:Hid (Fs.right l=8):=by show _=_;unfold Fs.right;rw [if_pos (by omega)]
  have i1:(65536:Int)<(n:Int):=by omega
  clear hn hbig
  go_enter Tryz.func19,Tryz.ntmps19
  go_wp2_with fail
  go_ret
  exact ⟨by rw [hR.out];rfl,Below.refl _ _⟩
 ·have hR:Hid (Fs.right l=Fs.rightF [] l):=by show _=_;unfold Fs.right;rw [if_neg (by omega)]
  have i1:¬(65536:Int)<(n:Int):=by omega
  have hn2:n≤65536:=by omega
  clear hn hbig
  go_enter Tryz.func19,Tryz.ntmps19
  go_wp2_with fail
  go_loopg [3] n (fun g i wx=>∃(k:Nat) (A:List UInt8),k≤n∧g=n-k∧i=.int .i64 k∧Hid (k=0→A=[])∧Hid (∀(j:Nat) (hj:j<l.length),j+1=k→l[j].1=A)∧Hid (Fs.rightF A (l.drop k)=Fs.rightF [] l)∧Below w.heap.size w wx)
  case atStart=>exact ⟨0,[],Nat.zero_le _,rfl,rfl,fun _=>rfl,fun j hj e=>by omega,by show _=_;rw [List.drop_zero],Below.refl _ _⟩
  case round=>
   obtain ⟨k,A,hk,rfl,rfl,hA0,hA,hS,hbel⟩:=hrel
   by_cases hkn:k<n
   ·have i2:(k:Int)<(n:Int):=by omega
    have kx:k<l.length:=by rw [←HN.out];exact hkn
    obtain ⟨g,o,rfl,hg,hcu⟩:=HU.out (by omega)
    have c1:wr.cell? ⟨g,o+k*2,none⟩=some (.string (bs l[k].1)):=((hcu.below hbel hg) k kx).1
    have c2:wr.cell? ⟨g,o+k*2+1,none⟩=some (.int .i64 l[k].2):=((hcu.below hbel hg) k kx).2
    have C3:Hid (0<k→wr.cell? ⟨g,o+(k-1)*2,none⟩=some (.string (bs A))):=fun h0=>by
     have h1:=((hcu.below hbel hg) (k-1) (by omega)).1
     rw [hA.out (k-1) (by omega) (by omega)] at h1
     exact h1
    have HBE:=lh hbel
    have hS2:=hS.out
    rw [drop_en kx] at hS2
    rw [rightF_cons] at hS2
    have HS2:=lh hS2
    have hsz:=bs_size l[k].1
    have hem:=bs_empty l[k].1
    have hcmp:=leq_lt l[k].1 A
    have hcmp2:(Op.bytesLess (bs l[k].1).toList (bs A).toList||(bs l[k].1).toList==(bs A).toList) = !Fs.lt A l[k].1:=by rw [bs_list,bs_list];exact hcmp
    have hlast:Hid (∀(j:Nat) (hj:j<l.length),j+1=k+1→l[j].1=l[k].1):=fun j hj e=>by (obtain rfl:j=k:=by omega);rfl
    clear hS hS2 hbel hcu hcmp hA
    generalize l[k].1=t at *
    generalize l[k].2=x at *
    by_cases ht:t=[]
    ·have he:(bs t).toList.isEmpty=true:=by rw [hem,ht];rfl
     have hfin:Hid (Fs.right l=1):=by show _=_;rw [hR.out,←HS2.out,if_pos (.inl ht)]
     clear ht hem hcmp2 hsz
     generalize bs t=T at *
     go_wp2_with fail
     go_ret
     exact ⟨by rw [hfin.out];rfl,HBE.out⟩
    ·have he:(bs t).toList.isEmpty=false:=by rw [hem];cases t with | nil=>exact absurd rfl ht | cons _ _=>rfl
     by_cases hx0:x<0
     ·have hfin:Hid (Fs.right l=1):=by show _=_;rw [hR.out,←HS2.out,if_pos (.inr hx0)]
      clear ht hem hcmp2 hsz
      generalize bs t=T at *
      go_wp2_with fail
      go_ret
      exact ⟨by rw [hfin.out];rfl,HBE.out⟩
     ·have hS3:=HS2.out
      rw [if_neg (by rintro (q | q);exact ht q;exact hx0 q)] at hS3
      by_cases h64:64<t.length
      ·rw [if_pos h64] at hS3
       have i3:(64:Int)<((bs t).size:Int):=by rw [hsz];omega
       have hfin:Hid (Fs.right l=4):=by show _=_;rw [hR.out,←hS3]
       clear ht hem hcmp2 hsz hS3 h64
       generalize bs t=T at *
       go_wp2_with fail
       go_ret
       exact ⟨by rw [hfin.out];rfl,HBE.out⟩
      ·rw [if_neg h64] at hS3
       have i3:¬(64:Int)<((bs t).size:Int):=by rw [hsz];omega
       have hlt0:Hid (k=0→Fs.lt A t=true):=fun h0=>by rw [hA0.out h0];exact Fs.lt_nil ht
       rcases Nat.eq_zero_or_pos k with h0 | h0
       ·subst h0
        rw [hlt0.out rfl,if_neg (by simp)] at hS3
        have HS3:=lh hS3
        clear ht hem hsz hS3 h64 hcmp2
        simp only [Nat.zero_mul,Nat.add_zero] at c1 c2
        generalize bs t=T at *
        generalize bs A=U at *
        go_wp2_with fail
        go_quiet (fail)
        go_wp2_with fail
        go_roundg (n-1)
        case rel=>exact ⟨1,t,by omega,rfl,by go_num,fun h=>by omega,hlast,HS3.out,by first | exact HBE.out | exact belowN HBE.out _⟩
        case measure=>omega
       ·have c3:=C3.out h0
        have i4:(0:Int)<(k:Int):=by omega
        cases hlt:Fs.lt A t
        ·rw [if_pos hlt] at hS3
         rw [hlt] at hcmp2
         have hfin:Hid (Fs.right l=3):=by show _=_;rw [hR.out,←hS3]
         clear ht hem hsz hS3 h64 hlt
         generalize bs t=T at *
         generalize bs A=U at *
         go_wp2_with fail
         go_quiet (fail)
         go_wp2_with fail
         go_ret
         exact ⟨by rw [hfin.out];rfl,by first | exact HBE.out | exact belowN HBE.out _⟩
        ·rw [if_neg (by rw [hlt];simp)] at hS3
         rw [hlt] at hcmp2
         have HS3:=lh hS3
         clear ht hem hsz hS3 h64 hlt
         generalize bs t=T at *
         generalize bs A=U at *
         go_wp2_with fail
         go_quiet (fail)
         go_wp2_with fail
         go_roundg (n-(k+1))
         case rel=>exact ⟨k+1,t,by omega,rfl,by go_num,fun h=>by omega,hlast,HS3.out,by first | exact HBE.out | exact belowN HBE.out _⟩
         case measure=>omega
   ·obtain rfl:k=n:=by omega
    have hd:l.drop k=[]:=List.drop_of_length_le (by rw [←HN.out];exact Nat.le_refl _)
    have hS2:=hS.out
    rw [hd] at hS2
    have hfin:Hid (Fs.right l=0):=by show _=_;rw [hR.out,←hS2];rfl
    have HBE:=lh hbel
    clear hS hS2 hd hbel
    go_wp2_with fail
    go_ret
    exact ⟨by rw [hfin.out];rfl,HBE.out⟩
theorem takeE_snoc {xs ys:List Fs.En} {k:Nat} (h1:k<xs.length) (h2:k<ys.length) (h:xs.take k=ys.take k) (e:xs[k]=ys[k]):xs.take (k+1)=ys.take (k+1):=by
 rw [List.take_succ_eq_append_getElem h1,List.take_succ_eq_append_getElem h2,h,e]
def Drew (w w':World):Prop:=∃q,w'=w.drewN q
theorem Drew.below {w w':World} (h:Drew w w'):Below w.heap.size w w':=by obtain ⟨q,rfl⟩:=h;exact belowN (Below.refl _ _) q
theorem same_any (w:World) (u v:Value) (xs ys:List Fs.En) (hu:EnS w u xs) (hv:EnS w v ys):
  Calls Tryz.prog 28 #[u,v] w fun e' w'=>e'=.returned (.bool (decide (xs=ys)))∧Below w.heap.size w w':=by
 obtain ⟨a,cap,rfl,hx,hx',hu⟩:=hu
 obtain ⟨a',cap',rfl,hy,hy',hv⟩:=hv
 have hx2:xs.length≤9223372036854775807:=by omega
 have HU:=lh hu
 have HV:=lh hv
 clear hu hv hx hx' hy hy'
 by_cases hl:xs.length=ys.length
 ·obtain ⟨n,hn⟩:∃n,n=xs.length:=⟨_,rfl⟩
  have hn2:ys.length=n:=by omega
  have HN:=lh hn
  have HN2:=lh hn2
  rw [←hn] at hx2 ⊢
  rw [hn2]
  clear hl hn hn2
  go_enter Tryz.func28,Tryz.ntmps28
  go_wp2_with fail
  go_loopg [5] n (fun g i wx=>∃k:Nat,k≤n∧g=n-k∧i=.int .i64 k∧Hid (xs.take k=ys.take k)∧Below w.heap.size w wx)
  case atStart=>exact ⟨0,Nat.zero_le _,rfl,rfl,by show _=_;rw [List.take_zero,List.take_zero],Below.refl _ _⟩
  case round=>
   obtain ⟨k,hk,rfl,rfl,hS,hbel⟩:=hrel
   by_cases hkn:k<n
   ·have i1:(k:Int)<(n:Int):=by omega
    have kx:k<xs.length:=by rw [←HN.out];exact hkn
    have ky:k<ys.length:=by rw [HN2.out];exact hkn
    obtain ⟨g,o,rfl,hg,hcu⟩:=HU.out (by omega)
    obtain ⟨g',o',rfl,hg',hcv⟩:=HV.out (by omega)
    obtain ⟨c1,c2⟩:=(hcu.below hbel hg) k kx
    obtain ⟨c3,c4⟩:=(hcv.below hbel hg') k ky
    have HBE:=lh hbel
    by_cases he:xs[k]=ys[k]
    ·have hst:Hid (xs.take (k+1)=ys.take (k+1)):=takeE_snoc kx ky hS.out he
     rw [←he] at c3 c4
     clear hS he hcu hcv hbel
     generalize bs xs[k].1=x at *
     generalize xs[k].2=xn at *
     go_wp2_with fail
     go_quiet (fail)
     go_wp2_with fail
     go_roundg (n-(k+1))
     case rel=>exact ⟨k+1,by omega,rfl,by go_num,hst,by first | exact HBE.out | exact belowN HBE.out _⟩
     case measure=>omega
    ·have hfin:Hid (decide (xs=ys)=false):=decide_eq_false (fun h=>he (by subst h;rfl))
     clear hS hcu hcv hbel
     generalize xs[k]=x at *
     generalize ys[k]=y at *
     obtain ⟨xs',xn⟩:=x
     obtain ⟨ys',yn⟩:=y
     dsimp only at c1 c2 c3 c4
     by_cases h1:xs'=ys'
     ·subst h1
      have he':(xn==yn)=false:=by
       simp only [Prod.mk.injEq,true_and] at he
       simpa using he
      clear he
      generalize bs xs'=x at *
      go_wp2_with fail
      go_quiet (fail)
      go_wp2_with fail
      go_ret
      exact ⟨by rw [hfin.out];rfl,by first | exact HBE.out | exact belowN HBE.out _⟩
     ·have he':((bs xs').toList==(bs ys').toList)=false:=by
       rw [bs_list,bs_list,beq_eq_false_iff_ne]
       exact h1
      clear he h1
      generalize bs xs'=x at *
      generalize bs ys'=y at *
      go_wp2_with fail
      go_quiet (fail)
      go_wp2_with fail
      go_ret
      exact ⟨by rw [hfin.out];rfl,by first | exact HBE.out | exact belowN HBE.out _⟩
   ·have hfin:Hid (decide (xs=ys)=true):=by
     obtain rfl:k=n:=by omega
     have h:=hS.out
     rw [List.take_of_length_le (by rw [←HN.out];exact Nat.le_refl _),List.take_of_length_le (by rw [HN2.out];exact Nat.le_refl _)] at h
     exact decide_eq_true h
    have HBE:=lh hbel
    clear hS hbel
    go_wp2_with fail
    go_ret
    exact ⟨by rw [hfin.out];rfl,HBE.out⟩
 ·have hfin:Hid (decide (xs=ys)=false):=decide_eq_false (fun h=>hl (by rw [h]))
  have hl':((xs.length:Int) != (ys.length:Int))=true:=by simp;omega
  go_enter Tryz.func28,Tryz.ntmps28
  go_wp2_with fail
  go_ret
  exact ⟨by rw [hfin.out];rfl,Below.refl _ _⟩
end F12
namespace F12
open Go.RowKit
structure Grew (w w':World) (v v':Value):Prop where
 kept:KeptF (fun k=>v.ownBlock=some k) w w'
 at':∀b,v'.ownBlock=some b→v.ownBlock=some b∨w.heap.size≤b
theorem Grew.far {w w':World} {v v':Value} (h:Grew w w' v v') {k:Nat} (hk:k<w.heap.size) (hv:v.ownBlock≠some k):w'.heap[k]?=w.heap[k]?:=h.kept.block k hk hv
theorem Grew.below {B:Nat} {w0 w w':World} {v v':Value} (h:Grew w w' v v') (hb:Below B w0 w) (hB:B≤w.heap.size) (hv:∀k,v.ownBlock=some k→B≤k):Below B w0 w':=h.kept.below hb hv hB
theorem grew_of {w W0 w':World} {B:Nat} {e:TypeId} {z n g cap:Nat} {v:Value} {xs ys:List Value} (h:w.ownsRow B e z v n xs) (hB:B≤w.heap.size) (hW:Below w.heap.size w W0)
  (h1:w'.ownsRow 0 e z (.slice (some ⟨g,0,none⟩) (n+1) cap) (n+1) ys) (h2:W0.grownBy w' v.ownBlock) (h3:v.ownBlock=some g∨g=W0.heap.size):
  w'.ownsRow B e z (.slice (some ⟨g,0,none⟩) (n+1) cap) (n+1) ys∧Grew w w' v (.slice (some ⟨g,0,none⟩) (n+1) cap):=by
 have hs:=hW.size
 refine ⟨⟨h1.1,?_⟩,⟨h2.os.trans hW.os,h2.tape.trans hW.tape,h2.output.trans hW.output,Nat.le_trans hs h2.size,fun k hk hf=>(h2.block k (Nat.lt_of_lt_of_le hk hs) (fun q=>hf q.symm)).trans (hW.block k hk)⟩,fun b hb=>?_⟩
 ·rcases h1.2 with ⟨q,_⟩ | ⟨g',cap',cur,q,hg,hr⟩
  ·cases q
  ·simp only [Value.slice.injEq,Option.some.injEq,Addr.mk.injEq,and_true,true_and] at q
   obtain ⟨rfl,rfl⟩:=q
   refine .inr ⟨g,cap,cur,rfl,?_,hr⟩
   rcases h3 with h3 | h3
   ·exact (h.lt g h3).1
   ·omega
 ·obtain rfl:g=b:=by simpa [Value.ownBlock] using hb
  rcases h3 with h3 | h3
  ·exact .inl h3
  ·exact .inr (by omega)
section
variable {ops:Array Oper} {rest:List Oper} {o:Oper} {a:Act}
theorem wpList_pushR {Q:Exit→Act→World→Prop} {w:World} (hgd:o.guard=none) (s x:Operand) (t e:TypeId)
  (ho:o.op=.call { callee:=.builtin .append,args:=#[s,x],argTypes:=#[t,t]}) (i:TypeInfo) (zv:Value) (z bytes:Nat) (ht:Tryz.prog.underlying t=some (.slice e)) (hi:Tryz.prog.info? e=some i) (hz:i.zero=some zv)
  (hsize:i.size=z) (hby:i.bytes=bytes) (hzs:zv.cells.size=z) (hz0:0<z) (B:Nat) (hB:B≤w.heap.size) (v:Value) (n:Nat) (xs:List Value) (hs:a.eval s=v) (h:w.ownsRow B e z v n xs) (cs:List Value) (hcs:cs.length=z) (h1:∀u∈cs,u.oneCell'=true)
  (hx:a.eval x=.slice (some ⟨w.heap.size,0,none⟩) 1 1) (hb:(n+1)*bytes≤140737488355328) (hb2:n+1≤140737488355328)
  (hk:∀g cap w',w'.ownsRow B e z (.slice (some ⟨g,0,none⟩) (n+1) cap) (n+1) (xs++cs)→Grew w w' v (.slice (some ⟨g,0,none⟩) (n+1) cap)→wpList Tryz.prog ops Q rest (a.put o.dst (.slice (some ⟨g,0,none⟩) (n+1) cap)) w'):
  wpList Tryz.prog ops Q (o :: rest) a (w.alloc (.cells cs.toArray e)):=by
 refine wpList_append_lies _ hgd s x t ho 0 e i zv z bytes ht hi hz hsize hby hzs hz0 v n xs hs (ownsRow_base (h.alloc _) (Nat.zero_le _)) ⟨w.heap.size,0,none⟩ 1 1 cs hx (by rw [hcs,Nat.one_mul]) (new_cells w cs e) h1 (by omega) (by unfold maxLen;omega) hb (by omega) _ rfl ?_
 intro g cap w' h2 h3 h4 _
 obtain ⟨k1,k2⟩:=grew_of h hB ((Below.refl _ _).alloc (Nat.le_refl _) _) h2 h3 h4
 exact hk g cap w' k1 k2
theorem step_pushR {K:Act→World→Prop} {Q:Exit→Act→World→Prop} {E:Prop} {w W0:World} (hgd:o.guard=none) (s x:Operand) (t e:TypeId)
  (ho:o.op=.call { callee:=.builtin .append,args:=#[s,x],argTypes:=#[t,t]}) (i:TypeInfo) (zv:Value) (z bytes:Nat) (ht:Tryz.prog.underlying t=some (.slice e)) (hi:Tryz.prog.info? e=some i) (hz:i.zero=some zv)
  (hsize:i.size=z) (hby:i.bytes=bytes) (hzs:zv.cells.size=z) (hz0:0<z) (B:Nat) (hB:B≤w.heap.size) (v:Value) (n:Nat) (xs:List Value) (hs:a.eval s=v) (h:w.ownsRow B e z v n xs) (hW:Below w.heap.size w W0) (cs:List Value) (hcs:cs.length=z) (h1:∀u∈cs,u.oneCell'=true)
  (ad:Addr) (hnews:∀j u,cs[j]?=some u→W0.cell? (ad.add j)=some u) (hx:a.eval x=.slice (some ad) 1 1) (hb:(n+1)*bytes≤140737488355328) (hb2:n+1≤140737488355328)
  (hk:∀g cap w',w'.ownsRow B e z (.slice (some ⟨g,0,none⟩) (n+1) cap) (n+1) (xs++cs)→Grew w w' v (.slice (some ⟨g,0,none⟩) (n+1) cap)→K (a.put o.dst (.slice (some ⟨g,0,none⟩) (n+1) cap)) w'):
  if Region.wanted o (yielded ops a.tmps)=true then Oper.wp Tryz.prog o a W0 K Q else E:=by
 refine step_append_lies _ hgd s x t ho 0 e i zv z bytes ht hi hz hsize hby hzs hz0 v n xs hs (ownsRow_base (ownsRow_keep h fun k hk=>hW.block k (h.lt k hk).2) (Nat.zero_le _)) ad 1 1 cs hx (by rw [hcs,Nat.one_mul]) hnews h1 (by omega) (by unfold maxLen;omega) hb (by omega) _ rfl ?_
 intro g cap w' h2 h3 h4 _
 obtain ⟨k1,k2⟩:=grew_of h hB hW h2 h3 h4
 exact hk g cap w' k1 k2
end
theorem OwnE.form {w:World} {B:Nat} {v:Value} {l:List Fs.En} (h:OwnE w B v l):∃a cap,v=.slice a l.length cap:=by
 obtain ⟨_,a,cap,h1,_⟩:=h.opened
 exact ⟨a,cap,h1⟩
theorem OwnE.lt {w:World} {B:Nat} {v:Value} {l:List Fs.En} (h:OwnE w B v l):∀k,v.ownBlock=some k→B≤k∧k<w.heap.size:=fun k hk=>World.ownsRow.lt h k hk
theorem OwnE.push {w:World} {B g cap:Nat} {l:List Fs.En} {x:Fs.En} (h:w.ownsRow B 29 2 (.slice (some ⟨g,0,none⟩) (l.length+1) cap) (l.length+1) (entV l++[.string (bs x.1),.int .i64 x.2])):OwnE w B (.slice (some ⟨g,0,none⟩) (l.length+1) cap) (l++[x]):=by
 rw [entV_snoc] at h
 unfold OwnE
 simpa using h
end F12
namespace F12
open Go.RowKit
namespace Fs
def cut (k:Nat) (l:List En):List En:=l.map fun e=>(e.1.drop k,e.2)
theorem cut_length (k:Nat) (l:List En):(cut k l).length=l.length:=List.length_map _
theorem cut_drop (k p:Nat) (l:List En):cut k (l.drop p)=(cut k l).drop p:=by unfold cut;rw [List.map_drop]
theorem cut_take (k p:Nat) (l:List En):cut k (l.take p)=(cut k l).take p:=by unfold cut;rw [List.map_take]
theorem cut_at (k:Nat) (l:List En) (i:Nat) (h:i<l.length) (h':i<(cut k l).length):(cut k l)[i]=(l[i].1.drop k,l[i].2):=by simp [cut]
theorem while_len {α:Type} {p:α→Bool}:∀ {l:List α} {j:Nat},j≤l.length→(∀i (h:i<l.length),i<j→p l[i]=true)→(∀(h:j<l.length),p l[j]=false)→(l.takeWhile p).length=j
 | [],j,hj,_,_=>by simp at hj;subst hj;rfl
 | x :: l,0,_,_,h=>by
  have:=h (by simp)
  rw [List.getElem_cons_zero] at this
  rw [List.takeWhile_cons,this]
  rfl
 | x :: l,j+1,hj,ha,h=>by
  have h0:=ha 0 (by simp) (by omega)
  rw [List.getElem_cons_zero] at h0
  rw [List.takeWhile_cons,if_pos h0,List.length_cons,while_len (by simpa using hj) (fun i hi hij=>by
   have:=ha (i+1) (by simpa using hi) (by omega)
   rwa [List.getElem_cons_succ] at this) (fun hi=>by
   have:=h (by simpa using hi)
   rwa [List.getElem_cons_succ] at this)]
end Fs
theorem hd_cut {c:UInt8} {k:Nat} {t:List UInt8} {o:Int} (h:k<t.length):Fs.hd c (t.drop k,o)=(t[k]==c):=by
 rw [List.drop_eq_getElem_cons h]
 rfl
theorem alike_any (w:World) (v:Value) (l:List Fs.En) (k:Nat) (c:UInt8) (h:EnS w v l) (h0:0<l.length) (hlen:l.length≤1073741824) (hl:∀e∈l,k<e.1.length) (hc:∀h:k<l[0].1.length,l[0].1[k]=c):
  Calls Tryz.prog 63 #[v,.int .i64 k] w fun e w'=>e=.returned (.int .i64 (Fs.grp c (Fs.cut k l)).length)∧Below w.heap.size w w':=by
 obtain ⟨a,cap,rfl,hx,hx',hu⟩:=h
 obtain ⟨g,o,rfl,hg,hcu⟩:=hu h0
 have HCU:=lh hcu
 have HL:=lh hl
 obtain ⟨t0,ht0⟩:∃t0,t0=l[0].1:=⟨_,rfl⟩
 have hk0:k<t0.length:=by rw [ht0];exact hl _ (List.getElem_mem h0)
 have hc0:t0[k]=c:=by subst ht0;exact hc _
 have H0:Hid (∀wx,Below w.heap.size w wx→wx.cell? ⟨g,o,none⟩=some (.string (bs t0))):=fun wx hb=>by
  have:=(hcu.below hb hg 0 h0).1
  rw [Nat.zero_mul,Nat.add_zero] at this
  rw [ht0]
  exact this
 have HST:Hid (∀i (h:i<(Fs.cut k l).length),i<1→Fs.hd c (Fs.cut k l)[i]=true):=fun i hi h1=>by
  obtain rfl:i=0:=by omega
  rw [Fs.cut_at k l 0 h0 hi,hd_cut (by rw [←ht0];exact hk0)]
  subst ht0
  rw [hc0]
  simp
 obtain ⟨n,hn⟩:∃n,n=l.length:=⟨_,rfl⟩
 have HN:=lh hn
 rw [←hn] at hx h0 hlen ⊢
 have s0:k<(bs t0).size:=by rw [bs_size];exact hk0
 have b0:(bs t0)[k]=c:=(bs_get t0 k s0 hk0).trans hc0
 clear hu hcu hl hc hn ht0 hc0 hk0
 generalize bs t0=T0 at *
 go_enter Tryz.func63,Tryz.ntmps63
 go_wp2_with fail
 go_loopg [5] (n-1) (fun gg i wx=>∃(j:Nat),1≤j∧j≤n∧gg=n-j∧i=.int .i64 j∧Hid (∀i (h:i<(Fs.cut k l).length),i<j→Fs.hd c (Fs.cut k l)[i]=true)∧Below w.heap.size w wx)
 case atStart=>exact ⟨1,Nat.le_refl _,by omega,rfl,rfl,HST,Below.refl _ _⟩
 case round=>
  obtain ⟨j,hj1,hj,rfl,rfl,hS,hbel⟩:=hrel
  by_cases hjn:j<n
  ·have i2:(j:Int)<(n:Int):=by omega
   have jx:j<l.length:=by rw [←HN.out];exact hjn
   have jc:j<(Fs.cut k l).length:=by rw [Fs.cut_length];exact jx
   have c1:=(HCU.out.below hbel hg j jx).1
   have c0:=H0.out wr hbel
   have hkt:k<l[j].1.length:=HL.out _ (List.getElem_mem jx)
   have s1:k<(bs l[j].1).size:=by rw [bs_size];exact hkt
   have hcut:=Fs.cut_at k l j jx jc
   obtain ⟨d,hd⟩:∃d,d=l[j].1[k]:=⟨_,rfl⟩
   have hhd:Fs.hd c (l[j].1.drop k,l[j].2)=(d==c):=by subst hd;exact hd_cut hkt
   have b1:(bs l[j].1)[k]=d:=by subst hd;exact bs_get l[j].1 k s1 hkt
   have HBE:=lh hbel
   clear hbel
   rw [←hcut] at hhd
   clear hd hkt hcut
   generalize bs l[j].1=T1 at *
   by_cases hdc:d=c
   ·have HS2:Hid (∀i (h:i<(Fs.cut k l).length),i<j+1→Fs.hd c (Fs.cut k l)[i]=true):=fun i hi hij=>by
     rcases Nat.lt_or_ge i j with q | q
     ·exact hS.out i hi q
     ·obtain rfl:i=j:=by omega
      rw [hhd,hdc]
      simp
    subst hdc
    clear hhd hS
    go_wp2_with fail
    go_quiet (fail)
    go_wp2_with fail
    go_roundg (n-(j+1))
    case rel=>exact ⟨j+1,by omega,by omega,rfl,by go_num,HS2,by first | exact HBE.out | exact belowN HBE.out _⟩
    case measure=>omega
   ·have hfin:Hid ((Fs.grp c (Fs.cut k l)).length=j):=Fs.while_len (by omega) hS.out (fun _=>by rw [hhd];simpa using hdc)
    have hne:((d.toNat:Int)==(c.toNat:Int))=false:=by
     rw [beq_eq_false_iff_ne]
     intro q
     exact hdc (UInt8.toNat_inj.1 (by omega))
    clear hhd hS hdc
    go_wp2_with fail
    go_quiet (fail)
    go_wp2_with fail
    go_ret
    exact ⟨by rw [hfin.out];rfl,by first | exact HBE.out | exact belowN HBE.out _⟩
  ·obtain rfl:j=n:=by omega
   have hfin:Hid ((Fs.grp c (Fs.cut k l)).length=j):=Fs.while_len (by rw [Fs.cut_length,←HN.out];exact Nat.le_refl _) hS.out (fun h=>by rw [Fs.cut_length,←HN.out] at h;omega)
   have HBE:=lh hbel
   have c0:=H0.out wr hbel
   clear hS hbel
   go_wp2_with fail
   go_quiet (fail)
   go_wp2_with fail
   go_ret
   exact ⟨by rw [hfin.out];rfl,by first | exact HBE.out | exact belowN HBE.out _⟩
end F12
namespace F12
open Go.RowKit
theorem Tryz.infoW:(Tryz.prog.info? 118).map (fun i=>(i.zero,i.size,i.bytes))=some (some (.agg #[.int .i64 0,.int .i64 0,.int .i64 0]),3,24):=by kernel_rfl
abbrev Wy:=UInt8 × Int × Nat
def wyV (l:List Wy):List Value:=l.flatMap fun x=>[.int .i64 (x.1.toNat:Nat),.int .i64 x.2.1,.int .i64 (x.2.2:Nat)]
theorem wyV_length (l:List Wy):(wyV l).length=l.length*3:=by
 induction l with
 | nil=>rfl
 | cons x t ih=>
  show (_ :: _ :: _ :: wyV t).length=_
  simp only [List.length_cons,ih]
  omega
theorem wyV_at (l:List Wy):∀i (h:i<l.length),(wyV l)[i*3]?=some (.int .i64 (l[i].1.toNat:Nat))∧(wyV l)[i*3+1]?=some (.int .i64 l[i].2.1)∧(wyV l)[i*3+2]?=some (.int .i64 (l[i].2.2:Nat)):=by
 induction l with
 | nil=>intro i h;cases h
 | cons x t ih=>
  intro i h
  cases i with
  | zero=>exact ⟨rfl,rfl,rfl⟩
  | succ i=>
   simp only [List.length_cons,Nat.add_lt_add_iff_right] at h
   have e:(i+1)*3=i*3+1+1+1:=by omega
   rw [e]
   exact ih i h
theorem wyV_snoc (l:List Wy) (x:Wy):wyV l++[.int .i64 (x.1.toNat:Nat),.int .i64 x.2.1,.int .i64 (x.2.2:Nat)]=wyV (l++[x]):=by simp [wyV]
def WayS (w:World) (v:Value) (l:List Wy):Prop:=
 ∃a cap,v=.slice a l.length cap∧l.length≤cap∧cap≤9223372036854775807∧(0<l.length→∃g,a=some ⟨g,0,none⟩∧g<w.heap.size∧∀i (_:i<l.length),w.cell? ⟨g,i*3,none⟩=some (.int .i64 (l[i].1.toNat:Nat))∧w.cell? ⟨g,i*3+1,none⟩=some (.int .i64 l[i].2.1)∧w.cell? ⟨g,i*3+2,none⟩=some (.int .i64 (l[i].2.2:Nat)))
theorem WayS.below {w w':World} {B:Nat} {v:Value} {l:List Wy} (h:WayS w v l) (hb:Below B w w') (hB:w.heap.size≤B):WayS w' v l:=by
 obtain ⟨a,cap,h1,h2,h3,h4⟩:=h
 refine ⟨a,cap,h1,h2,h3,fun h0=>?_⟩
 obtain ⟨g,h5,h6,h7⟩:=h4 h0
 have hg:=Nat.lt_of_lt_of_le h6 hB
 exact ⟨g,h5,Nat.lt_of_lt_of_le h6 hb.size,fun i hi=>⟨(hb.cell (p:=⟨g,i*3,none⟩) hg).trans (h7 i hi).1,(hb.cell (p:=⟨g,i*3+1,none⟩) hg).trans (h7 i hi).2.1,(hb.cell (p:=⟨g,i*3+2,none⟩) hg).trans (h7 i hi).2.2⟩⟩
def OwnY (w:World) (B:Nat) (v:Value) (l:List Wy):Prop:=w.ownsRow B 118 3 v l.length (wyV l)
theorem OwnY.ways {w:World} {B:Nat} {v:Value} {l:List Wy} (h:OwnY w B v l):WayS w v l:=by
 rcases h.2 with ⟨rfl,h0⟩ | ⟨g,cap,cur,rfl,hg,hh,hnc,hcp,hcs,htake⟩
 ·exact ⟨none,0,by rw [h0],by omega,by omega,fun h=>by omega⟩
 ·have hown:w.ownsRow B 118 3 (.slice (some ⟨g,0,none⟩) l.length cap) l.length (wyV l):=h
  have e:∀j u,(wyV l)[j]?=some u→w.cell? ⟨g,j,none⟩=some u:=fun j u hj=>by
   have h:=hown.cells (g:=g) rfl j u hj
   rw [Addr.add_lit,Nat.zero_add] at h
   exact h
  refine ⟨_,cap,rfl,hnc,by unfold maxLen at hcp;omega,fun _=>⟨g,rfl,(hown.lt g rfl).2,fun i hi=>?_⟩⟩
  obtain ⟨a1,a2,a3⟩:=wyV_at l i hi
  exact ⟨e _ _ a1,e _ _ a2,e _ _ a3⟩
theorem intsV_append (l r:List Int):intsV l++intsV r=intsV (l++r):=by simp [intsV]
def OwnI (w:World) (B:Nat) (v:Value) (l:List Int):Prop:=w.ownsRow B 3 1 v l.length (intsV l)
theorem ownI_lit (w:World) (zs:List Int) {B:Nat} (hB:B≤w.heap.size) (hn:zs.length≤1000):OwnI (w.alloc (.cells (intsV zs).toArray 3)) B (.slice (some ⟨w.heap.size,0,none⟩) zs.length zs.length) zs:=
 ⟨by simp [intsV],.inr ⟨w.heap.size,zs.length,_,rfl,hB,Go.Deep.blk_alloc_new _ _,Nat.le_refl _,by unfold maxLen;omega,by simp [intsV],by rw [Nat.mul_one];exact List.take_of_length_le (by simp [intsV])⟩⟩
theorem OwnI.form {w:World} {B:Nat} {v:Value} {l:List Int} (h:OwnI w B v l):∃a cap,v=.slice a l.length cap∧l.length≤cap∧cap≤9223372036854775807:=by
 rcases h.2 with ⟨rfl,h0⟩ | ⟨g,cap,cur,rfl,hg,hh,hnc,hcp,hcs,htake⟩
 ·exact ⟨none,0,by rw [h0],by omega,by omega⟩
 ·exact ⟨_,cap,rfl,hnc,by unfold maxLen at hcp;omega⟩
theorem OwnI.cells {w:World} {B:Nat} {v:Value} {l:List Int} (h:OwnI w B v l) (h0:0<l.length):∃g cap,v=.slice (some ⟨g,0,none⟩) l.length cap∧g<w.heap.size∧∀j (hj:j<l.length),w.cell? ⟨g,0+j,none⟩=some (.int .i64 l[j]):=by
 rcases h.2 with ⟨rfl,h1⟩ | ⟨g,cap,cur,rfl,hg,hh,hnc,hcp,hcs,htake⟩
 ·omega
 ·have hown:w.ownsRow B 3 1 (.slice (some ⟨g,0,none⟩) l.length cap) l.length (intsV l):=h
  refine ⟨g,cap,rfl,(hown.lt g rfl).2,fun j hj=>?_⟩
  rw [Nat.zero_add,hown.cellAt j (by omega)]
  simp [intsV,hj]
def numsN (fin:Option Int) (ws:List Wy) (m:Int):List Int:=(match fin with
 | some v=>[(2*ws.length:Nat)+1,v-m]
 | none=>[((2*ws.length:Nat):Int)])++ws.flatMap fun w=>[((w.1.toNat:Nat):Int),w.2.1-m,((w.2.2:Nat):Int)]
def lessN (fin:Option Int) (ws:List Wy) (m:Int):Fs.Nd:=(fin.map (· - m),ws.map fun w=>(w.1,w.2.1-m,w.2.2))
theorem numsN_bytes (fin:Option Int) (ws:List Wy) (m:Int):Pl.numsB (numsN fin ws m)=Fs.bytesN (lessN fin ws m):=by
 have key:∀ws:List Wy,Pl.numsB (ws.flatMap fun w=>[((w.1.toNat:Nat):Int),w.2.1-m,((w.2.2:Nat):Int)])=(ws.map fun w=>((w.1,w.2.1-m,w.2.2):Wy)).flatMap Fs.wayB:=by
  intro ws
  induction ws with
  | nil=>rfl
  | cons w ws ih=>
   rw [List.flatMap_cons,List.map_cons,List.flatMap_cons,←ih]
   unfold Pl.numsB Fs.wayB
   simp
 unfold numsN Fs.bytesN lessN Fs.headN
 cases fin with
 | none=>
  simp only [Option.map_none,Option.isSome_none,Bool.false_eq_true,if_false,List.length_map]
  rw [←key]
  unfold Pl.numsB Fs.finB
  simp
 | some v=>
  simp only [Option.map_some,Option.isSome_some,if_true,List.length_map]
  rw [←key]
  unfold Pl.numsB Fs.finB
  simp
theorem numsN_snoc (fin:Option Int) (ws:List Wy) (k:Nat) (m:Int) (n:Nat) (hk:k<ws.length):((match fin with
 | some v=>[((2*n:Nat):Int)+1,v-m]
 | none=>[((2*n:Nat):Int)])++(ws.take k).flatMap fun w=>[((w.1.toNat:Nat):Int),w.2.1-m,((w.2.2:Nat):Int)])++[((ws[k].1.toNat:Nat):Int),ws[k].2.1-m,((ws[k].2.2:Nat):Int)]=(match fin with
 | some v=>[((2*n:Nat):Int)+1,v-m]
 | none=>[((2*n:Nat):Int)])++(ws.take (k+1)).flatMap fun w=>[((w.1.toNat:Nat):Int),w.2.1-m,((w.2.2:Nat):Int)]:=by
 rw [List.take_succ_eq_append_getElem hk,List.flatMap_append]
 simp
def soFar (fin:Option Int) (ws:List Wy) (m:Int) (n k:Nat):List Int:=(match fin with
 | some v=>[((2*n:Nat):Int)+1,v-m]
 | none=>[((2*n:Nat):Int)])++(ws.take k).flatMap fun w=>[((w.1.toNat:Nat):Int),w.2.1-m,((w.2.2:Nat):Int)]
theorem soFar_length (fin:Option Int) (ws:List Wy) (m:Int) (n k:Nat) (hk:k≤ws.length):(soFar fin ws m n k).length=(if fin.isSome then 2 else 1)+k*3:=by
 have key:∀l:List Wy,(l.flatMap fun w=>[((w.1.toNat:Nat):Int),w.2.1-m,((w.2.2:Nat):Int)]).length=l.length*3:=by
  intro l
  induction l with
  | nil=>rfl
  | cons x t ih=>
   rw [List.flatMap_cons,List.length_append,ih,List.length_cons]
   simp only [List.length_cons,List.length_nil]
   omega
 unfold soFar
 rw [List.length_append,key,List.length_take,Nat.min_eq_left hk]
 cases fin <;> simp
theorem textOf_any (w:World) (v:Value) (fin:Option Int) (ov m:Int) (ws:List Wy) (h:WayS w v ws) (hn:ws.length≤1000000) (hov:∀x,fin=some x→ov=x) (hm:0≤m∧m≤9223372036854775807) (hf:∀x,fin=some x→m≤x∧x≤9223372036854775807) (hw:∀y∈ws,m≤y.2.1∧y.2.1≤9223372036854775807∧(y.2.2:Int)≤9223372036854775807):
  Calls Tryz.prog 64 #[.agg #[.bool fin.isSome,.int .i64 ov,v],.int .i64 m] w fun e w'=>e=.returned (.string (bs (Fs.bytesN (lessN fin ws m))))∧Below w.heap.size w w':=by
 obtain ⟨a,cap,rfl,hx,hx',hu⟩:=h
 obtain ⟨ii,hi,hz0,hz1,hz2⟩:=info_parts Tryz.infoI
 have HU:=lh hu
 have HW:=lh hw
 obtain ⟨n,hnn⟩:∃n,n=ws.length:=⟨_,rfl⟩
 have HN:=lh hnn
 rw [←hnn] at hx hn ⊢
 have HFIN:Hid (soFar fin ws m n n=numsN fin ws m):=by show _=_;unfold soFar numsN;rw [hnn,List.take_length]
 have HLEN:Hid (∀k,k≤n→(soFar fin ws m n k).length≤2+k*3∧1≤(soFar fin ws m n k).length):=fun k hk=>by
  rw [soFar_length fin ws m n k (by omega)]
  split <;> omega
 have HWF:Hid (∀x∈numsN fin ws m,-9223372036854775808≤x∧x≤9223372036854775807):=by
  intro x hx
  unfold numsN at hx
  rcases List.mem_append.1 hx with hx | hx
  ·cases fin with
   | none=>rw [List.mem_singleton.1 hx];omega
   | some u=>
    have:=hf u rfl
    rcases List.mem_cons.1 hx with rfl | hx
    ·omega
    ·rw [List.mem_singleton.1 hx];omega
  ·obtain ⟨y,hy,hx⟩:=List.mem_flatMap.1 hx
   have h1:=hw y hy
   have h2:=y.1.toNat_lt
   simp only [List.mem_cons,List.mem_nil_iff,or_false] at hx
   rcases hx with rfl | rfl | rfl <;> omega
 have HNB:=lh (numsN_bytes fin ws m)
 have HST:Hid (∀k (hk:k<ws.length),soFar fin ws m n k++[((ws[k].1.toNat:Nat):Int),ws[k].2.1-m,((ws[k].2.2:Nat):Int)]=soFar fin ws m n (k+1)):=fun k hk=>numsN_snoc fin ws k m n hk
 have H0:Hid (soFar fin ws m n 0=(match fin with
  | some v=>[((2*n:Nat):Int)+1,v-m]
  | none=>[((2*n:Nat):Int)])):=by show _=_;unfold soFar;simp
 obtain ⟨hm1,hm2⟩:=hm
 clear hu hw hnn
 cases fin with
 | none=>
  rw [show (none:Option Int).isSome=false from rfl]
  go_enter Tryz.func64,Tryz.ntmps64
  go_wp2_with fail
  have HO1:Hid (OwnI ((w.alloc (.cells #[.bool false,.int .i64 ov,.slice a n cap] 115)).alloc (.cells #[.int .i64 (2*(n:Int))] 3)) w.heap.size (.slice (some ⟨w.heap.size+1,0,none⟩) 1 1) (soFar none ws m n 0)):=by
   have h1:=ownI_lit (w.alloc (.cells #[.bool false,.int .i64 ov,.slice a n cap] 115)) [2*(n:Int)] (B:=w.heap.size) (by simp) (by simp)
   show OwnI _ _ _ _
   rw [show soFar none ws m n 0=[2*(n:Int)] from H0.out]
   simpa [intsV] using h1
  have HB1:Hid (Below w.heap.size w ((w.alloc (.cells #[.bool false,.int .i64 ov,.slice a n cap] 115)).alloc (.cells #[.int .i64 (2*(n:Int))] 3))):=((Below.refl _ _).alloc (Nat.le_refl _) _).alloc (by simp) _
  go_loopg [5,28] n (fun gg nv i wx=>∃(k:Nat),k≤n∧gg=n-k∧i=.int .i64 k∧OwnI wx w.heap.size nv (soFar none ws m n k)∧Below w.heap.size w wx)
  case atStart=>exact ⟨0,Nat.zero_le _,rfl,rfl,HO1.out,HB1.out⟩
  case round=>
   obtain ⟨k,hk,rfl,rfl,hown,hbel⟩:=hrel
   have hsl:=HLEN.out k hk
   obtain ⟨a6,c6,hv6,hc6,hc6'⟩:=hown.form
   subst hv6
   have HO:=lh hown
   have HBE:=lh hbel
   have HSZ:=lh hbel.size
   clear hown
   by_cases hkn:k<n
   ·have i2:(k:Int)<(n:Int):=by omega
    have kx:k<ws.length:=by rw [←HN.out];exact hkn
    obtain ⟨g,rfl,hg,hcu⟩:=HU.out (by omega)
    have c1:wr.cell? ⟨g,k*3,none⟩=some (.int .i64 (ws[k].1.toNat:Nat)):=(hbel.cell (p:=⟨g,k*3,none⟩) hg).trans (hcu k kx).1
    have c2:wr.cell? ⟨g,k*3+1,none⟩=some (.int .i64 ws[k].2.1):=(hbel.cell (p:=⟨g,k*3+1,none⟩) hg).trans (hcu k kx).2.1
    have c3:wr.cell? ⟨g,k*3+2,none⟩=some (.int .i64 (ws[k].2.2:Nat)):=(hbel.cell (p:=⟨g,k*3+2,none⟩) hg).trans (hcu k kx).2.2
    have hwk:=HW.out _ (List.getElem_mem kx)
    have hst:=HST.out k kx
    have hwr:wrap64 (ws[k].2.1-m)=ws[k].2.1-m:=by unfold wrap64;omega
    have HS2:=lh hst
    obtain ⟨acc,hacc⟩:∃acc,acc=soFar none ws m n k:=⟨_,rfl⟩
    rw [←hacc] at HO hsl HS2 ⊢
    clear hcu hbel hst hacc
    generalize ws[k].1.toNat=d1 at *
    generalize ws[k].2.1=d2 at *
    generalize ws[k].2.2=d3 at *
    go_wp2_with (at_builtin;go_loud ((refine wpList_append_own _ rfl _ _ 82 rfl w.heap.size 3 ii (.int .i64 0) 1 8 Tryz.underlying82 hi hz0 hz1 hz2 rfl (by decide) (.slice a6 acc.length c6) acc.length (intsV acc) rfl ((World.ownsRow.alloc HO.out _).alloc _) ⟨wr.heap.size+1,0,none⟩ 3 3 [.int .i64 (d1:Int),.int .i64 (d2-m),.int .i64 (d3:Int)] rfl rfl (by have:=new_cells (wr.alloc (.cells #[.int .i64 (d1:Int),.int .i64 d2,.int .i64 (d3:Int)] 118)) [.int .i64 (d1:Int),.int .i64 (d2-m),.int .i64 (d3:Int)] 3;simpa using this) (one_of rfl) (by unfold maxLen;omega) (by omega) (by have:=HSZ.out;simp;omega) ?_;intro v5 w5 hown5 hgr5 _)))
    have HO5:Hid (OwnI w5 w.heap.size v5 (soFar none ws m n (k+1))):=by
     show OwnI _ _ _ _
     rw [←HS2.out]
     unfold OwnI
     rw [←intsV_append]
     simpa [intsV] using hown5
    have HB5:Hid (Below w.heap.size w w5):=((HBE.out.alloc HSZ.out _).alloc (Nat.le_trans HSZ.out (by simp)) _).grown hgr5 (by have:=HSZ.out;simp;omega) (fun j hj=>(World.ownsRow.lt HO.out j hj).1)
    clear hown5 hgr5 HO
    go_wp2_with fail
    go_roundg (n-(k+1))
    case rel=>exact ⟨k+1,by omega,rfl,by go_num,HO5.out,HB5.out⟩
    case measure=>omega
   ·obtain rfl:k=n:=by omega
    have hF:=HFIN.out
    rw [hF] at HO hsl ⊢
    have hO:=HO.out
    obtain ⟨g9,c9,hv9,hg9,hc9⟩:=hO.cells (by omega)
    simp only [Value.slice.injEq,true_and] at hv9
    obtain ⟨rfl,rfl⟩:=hv9
    have HC:=lh (nums_any wr (numsN none ws m) (numsN none ws m).length c6 g9 0 (by omega) rfl hg9 hc9 HWF.out)
    rw [HNB.out] at HC
    clear hc9 hO hF HO
    generalize hq:(numsN none ws m).length=q at *
    clear hq
    go_wp2_with (go_at_call 36;refine HC.out.mono ?_;rintro e1 w1 ⟨rfl,hb1⟩;have HB9:Hid (Below w.heap.size w w1):=HBE.out.trans (hb1.mono HSZ.out);clear hb1)
    go_ret
    exact ⟨rfl,HB9.out⟩
 | some x=>
  obtain rfl:=hov x rfl
  obtain ⟨hf1,hf2⟩:=hf ov rfl
  rw [show (some ov:Option Int).isSome=true from rfl]
  have hwo:wrap64 (ov-m)=ov-m:=by unfold wrap64;omega
  go_enter Tryz.func64,Tryz.ntmps64
  go_wp2_with fail
  have HO1:Hid (OwnI (((w.alloc (.cells #[.bool true,.int .i64 ov,.slice a n cap] 115)).alloc (.cells #[.int .i64 (2*(n:Int))] 3)).alloc (.cells #[.int .i64 (2*(n:Int)+1),.int .i64 (ov-m)] 3)) w.heap.size (.slice (some ⟨w.heap.size+2,0,none⟩) 2 2) (soFar (some ov) ws m n 0)):=by
   have h1:=ownI_lit ((w.alloc (.cells #[.bool true,.int .i64 ov,.slice a n cap] 115)).alloc (.cells #[.int .i64 (2*(n:Int))] 3)) [2*(n:Int)+1,ov-m] (B:=w.heap.size) (by simp;omega) (by simp)
   show OwnI _ _ _ _
   rw [show soFar (some ov) ws m n 0=[2*(n:Int)+1,ov-m] from H0.out]
   simpa [intsV] using h1
  have HB1:Hid (Below w.heap.size w (((w.alloc (.cells #[.bool true,.int .i64 ov,.slice a n cap] 115)).alloc (.cells #[.int .i64 (2*(n:Int))] 3)).alloc (.cells #[.int .i64 (2*(n:Int)+1),.int .i64 (ov-m)] 3))):=(((Below.refl _ _).alloc (Nat.le_refl _) _).alloc (by simp) _).alloc (by simp;omega) _
  go_loopg [5,28] n (fun gg nv i wx=>∃(k:Nat),k≤n∧gg=n-k∧i=.int .i64 k∧OwnI wx w.heap.size nv (soFar (some ov) ws m n k)∧Below w.heap.size w wx)
  case atStart=>exact ⟨0,Nat.zero_le _,rfl,rfl,HO1.out,HB1.out⟩
  case round=>
   obtain ⟨k,hk,rfl,rfl,hown,hbel⟩:=hrel
   have hsl:=HLEN.out k hk
   obtain ⟨a6,c6,hv6,hc6,hc6'⟩:=hown.form
   subst hv6
   have HO:=lh hown
   have HBE:=lh hbel
   have HSZ:=lh hbel.size
   clear hown
   by_cases hkn:k<n
   ·have i2:(k:Int)<(n:Int):=by omega
    have kx:k<ws.length:=by rw [←HN.out];exact hkn
    obtain ⟨g,rfl,hg,hcu⟩:=HU.out (by omega)
    have c1:wr.cell? ⟨g,k*3,none⟩=some (.int .i64 (ws[k].1.toNat:Nat)):=(hbel.cell (p:=⟨g,k*3,none⟩) hg).trans (hcu k kx).1
    have c2:wr.cell? ⟨g,k*3+1,none⟩=some (.int .i64 ws[k].2.1):=(hbel.cell (p:=⟨g,k*3+1,none⟩) hg).trans (hcu k kx).2.1
    have c3:wr.cell? ⟨g,k*3+2,none⟩=some (.int .i64 (ws[k].2.2:Nat)):=(hbel.cell (p:=⟨g,k*3+2,none⟩) hg).trans (hcu k kx).2.2
    have hwk:=HW.out _ (List.getElem_mem kx)
    have hst:=HST.out k kx
    have hwr:wrap64 (ws[k].2.1-m)=ws[k].2.1-m:=by unfold wrap64;omega
    have HS2:=lh hst
    obtain ⟨acc,hacc⟩:∃acc,acc=soFar (some ov) ws m n k:=⟨_,rfl⟩
    rw [←hacc] at HO hsl HS2 ⊢
    clear hcu hbel hst hacc
    generalize ws[k].1.toNat=d1 at *
    generalize ws[k].2.1=d2 at *
    generalize ws[k].2.2=d3 at *
    go_wp2_with (at_builtin;go_loud ((refine wpList_append_own _ rfl _ _ 82 rfl w.heap.size 3 ii (.int .i64 0) 1 8 Tryz.underlying82 hi hz0 hz1 hz2 rfl (by decide) (.slice a6 acc.length c6) acc.length (intsV acc) rfl ((World.ownsRow.alloc HO.out _).alloc _) ⟨wr.heap.size+1,0,none⟩ 3 3 [.int .i64 (d1:Int),.int .i64 (d2-m),.int .i64 (d3:Int)] rfl rfl (by have:=new_cells (wr.alloc (.cells #[.int .i64 (d1:Int),.int .i64 d2,.int .i64 (d3:Int)] 118)) [.int .i64 (d1:Int),.int .i64 (d2-m),.int .i64 (d3:Int)] 3;simpa using this) (one_of rfl) (by unfold maxLen;omega) (by omega) (by have:=HSZ.out;simp;omega) ?_;intro v5 w5 hown5 hgr5 _)))
    have HO5:Hid (OwnI w5 w.heap.size v5 (soFar (some ov) ws m n (k+1))):=by
     show OwnI _ _ _ _
     rw [←HS2.out]
     unfold OwnI
     rw [←intsV_append]
     simpa [intsV] using hown5
    have HB5:Hid (Below w.heap.size w w5):=((HBE.out.alloc HSZ.out _).alloc (Nat.le_trans HSZ.out (by simp)) _).grown hgr5 (by have:=HSZ.out;simp;omega) (fun j hj=>(World.ownsRow.lt HO.out j hj).1)
    clear hown5 hgr5 HO
    go_wp2_with fail
    go_roundg (n-(k+1))
    case rel=>exact ⟨k+1,by omega,rfl,by go_num,HO5.out,HB5.out⟩
    case measure=>omega
   ·obtain rfl:k=n:=by omega
    have hF:=HFIN.out
    rw [hF] at HO hsl ⊢
    have hO:=HO.out
    obtain ⟨g9,c9,hv9,hg9,hc9⟩:=hO.cells (by omega)
    simp only [Value.slice.injEq,true_and] at hv9
    obtain ⟨rfl,rfl⟩:=hv9
    have HC:=lh (nums_any wr (numsN (some ov) ws m) (numsN (some ov) ws m).length c6 g9 0 (by omega) rfl hg9 hc9 HWF.out)
    rw [HNB.out] at HC
    clear hc9 hO hF HO
    generalize hq:(numsN (some ov) ws m).length=q at *
    clear hq
    go_wp2_with (go_at_call 36;refine HC.out.mono ?_;rintro e1 w1 ⟨rfl,hb1⟩;have HB9:Hid (Below w.heap.size w w1):=HBE.out.trans (hb1.mono HSZ.out);clear hb1)
    go_ret
    exact ⟨rfl,HB9.out⟩
end F12
namespace F12
open Go.RowKit
structure KeptT (T:List TypeId) (B:Nat) (w w':World):Prop where
 os:w'.os=w.os
 tape:w'.tape=w.tape
 output:w'.output=w.output
 size:w.heap.size≤w'.heap.size
 old:∀k,k<B→k<w.heap.size→w'.heap[k]?=w.heap[k]?
 kind:∀(k:Nat) (c:Array Value) (t:TypeId) (fz:Nat × Nat),w.heap[k]?=some (Obj.cells c t fz)→t∈T→w'.heap[k]?=w.heap[k]?
theorem KeptT.trans {T:List TypeId} {B:Nat} {w w' w'':World} (h:KeptT T B w w') (k:KeptT T B w' w''):KeptT T B w w'':=
 ⟨k.os.trans h.os,k.tape.trans h.tape,k.output.trans h.output,Nat.le_trans h.size k.size,fun i hi hw=>(k.old i hi (Nat.lt_of_lt_of_le hw h.size)).trans (h.old i hi hw),fun i c t fz hc ht=>by
  have e:=h.kind i c t fz hc ht
  exact (k.kind i c t fz (e.trans hc) ht).trans e⟩
theorem KeptT.less {S T:List TypeId} {B:Nat} {w w':World} (h:KeptT T B w w') (hs:∀t∈S,t∈T):KeptT S B w w':=⟨h.os,h.tape,h.output,h.size,h.old,fun k c t fz hc ht=>h.kind k c t fz hc (hs t ht)⟩
theorem KeptT.of_below {T:List TypeId} {B:Nat} {w w':World} (h:Below w.heap.size w w'):KeptT T B w w':=
 ⟨h.os,h.tape,h.output,h.size,fun k _ hk=>h.block k hk,fun k _ _ _ hc _=>h.block k (Array.getElem?_eq_some_iff.1 hc).1⟩
theorem KeptT.below {T:List TypeId} {B:Nat} {w0 w w':World} (h:KeptT T B w w') (hb:Below B w0 w) (hB:B≤w.heap.size):Below B w0 w':=
 hb.trans ⟨h.os,h.tape,h.output,h.size,fun k hk=>h.old k hk (by omega)⟩
theorem KeptT.drew {T:List TypeId} {B:Nat} {w w':World} (h:KeptT T B w w'):KeptT T B w w'.drew:=h.trans (KeptT.of_below (Below.refl _ _).drew)
theorem KeptT.one {T:List TypeId} {B:Nat} {w w':World} (b:Nat) (h:KeptF (fun k=>k=b) w w') (hB:B≤b) (hk:∀(c:Array Value) (t:TypeId) (fz:Nat × Nat),w.heap[b]?=some (Obj.cells c t fz)→t∉T):KeptT T B w w':=
 ⟨h.os,h.tape,h.output,h.size,fun k h1 h2=>h.block k h2 (by omega),fun k c t fz hc ht=>h.block k (Array.getElem?_eq_some_iff.1 hc).1 (fun e=>by subst e;exact hk c t fz hc ht)⟩
theorem KeptT.set {T:List TypeId} {B:Nat} {w:World} (b i:Nat) (v:Value) (hB:B≤b) (hk:∀(c:Array Value) (t:TypeId) (fz:Nat × Nat),w.heap[b]?=some (Obj.cells c t fz)→t∉T):KeptT T B w (w.setCell ⟨b,i,none⟩ v):=
 KeptT.one b ⟨rfl,rfl,rfl,by simp [World.setCell],fun k _ hk=>heap_other _ _ _ _ _ hk⟩ hB hk
theorem own_kind {w:World} {B:Nat} {e:TypeId} {z n:Nat} {v:Value} {xs:List Value} (h:w.ownsRow B e z v n xs):∀k,v.ownBlock=some k→B≤k∧k<w.heap.size∧∃c fz,w.heap[k]?=some (Obj.cells c e fz):=by
 intro g hv
 refine ⟨(h.lt g hv).1,(h.lt g hv).2,?_⟩
 rcases h.2 with ⟨h1,_⟩ | ⟨g',cap,cur,h1,hg,hh,_⟩
 ·rw [h1] at hv;cases hv
 ·rw [h1] at hv
  obtain rfl:g'=g:=by simpa [Value.ownBlock] using hv
  exact ⟨_,_,hh⟩
theorem kind_inj {w:World} {k:Nat} {c c':Array Value} {t t':TypeId} {fz fz':Nat × Nat} (h:w.heap[k]?=some (Obj.cells c t fz)) (h':w.heap[k]?=some (.cells c' t' fz')):t=t':=by
 rw [h] at h'
 injection h' with h'
 injection h'
theorem Grew.keptT {T:List TypeId} {B:Nat} {w w':World} {e:TypeId} {z n:Nat} {v v':Value} {xs:List Value} (h:Grew w w' v v') (hown:w.ownsRow B e z v n xs) (he:e∉T):KeptT T B w w':=
 ⟨h.kept.os,h.kept.tape,h.kept.output,h.kept.size,fun k h1 h2=>h.kept.block k h2 (fun q=>by have:=(own_kind hown k q).1;omega),fun k c t fz hc ht=>h.kept.block k (Array.getElem?_eq_some_iff.1 hc).1 (fun q=>by
  obtain ⟨_,_,c',fz',h'⟩:=own_kind hown k q
  exact he (kind_inj hc h' ▸ ht))⟩
theorem ownsRow_kt {T:List TypeId} {B:Nat} {w w':World} {e:TypeId} {z n:Nat} {v:Value} {xs:List Value} (h:w.ownsRow B e z v n xs) (k:KeptT T B w w') (he:e∈T):w'.ownsRow B e z v n xs:=
 ownsRow_keep h fun g hg=>by
  obtain ⟨_,_,c,fz,hc⟩:=own_kind h g hg
  exact k.kind g c e fz hc he
def RowT (t:TypeId) (w:World) (b:Nat) (cs:Array Value):Prop:=w.heap[b]?=some (Obj.cells cs t (0,0))
theorem RowT.cell {t:TypeId} {w:World} {b:Nat} {cs:Array Value} (h:RowT t w b cs) (i:Nat):w.cell? ⟨b,i,none⟩=cs[i]?:=cell_of_row w b i cs _ _ h
theorem RowT.frozen {t:TypeId} {w:World} {b:Nat} {cs:Array Value} (h:RowT t w b cs) (i:Nat):w.frozen? ⟨b,i,none⟩=false:=by
 have h':w.heap[b]?=some (Obj.cells cs t (0,0)):=h
 simp [World.frozen?,h']
theorem RowT.lt {t:TypeId} {w:World} {b:Nat} {cs:Array Value} (h:RowT t w b cs):b<w.heap.size:=(Array.getElem?_eq_some_iff.1 h).1
theorem RowT.set {t:TypeId} {w:World} {b:Nat} {cs:Array Value} (h:RowT t w b cs) (i:Nat) (v:Value):RowT t (w.setCell ⟨b,i,none⟩ v) b (cs.setIfInBounds i v):=by
 unfold RowT
 rw [setCell_eq_setRow w b i cs _ _ v h]
 exact setRow_heap w b cs _ _ _ h
theorem RowT.keep {t:TypeId} {w w':World} {b:Nat} {cs:Array Value} (h:RowT t w b cs) (e:w'.heap[b]?=w.heap[b]?):RowT t w' b cs:=e.trans h
def strV (l:List (List UInt8)):List Value:=l.map fun t=>.string (bs t)
theorem strV_snoc (l:List (List UInt8)) (t:List UInt8):strV l++[.string (bs t)]=strV (l++[t]):=by simp [strV]
theorem OwnE.base {w:World} {B C:Nat} {v:Value} {l:List Fs.En} (h:OwnE w B v l) (hC:C≤B):OwnE w C v l:=ownsRow_base h hC
end F12
namespace F12
open Go.RowKit
namespace Fs
theorem at_last {M:List (List En)} {l:List En} (h:l∉M):at_ (M++[l]) l=M.length:=by
 unfold at_
 rw [List.findIdx_append,if_neg]
 ·simp
 ·intro q
  have h1:=List.findIdx_getElem (p:=(· == l)) (xs:=M) (w:=q)
  have h2:=eq_of_beq h1
  exact h (h2 ▸ List.getElem_mem q)
theorem fold_length (n:Nat):∀(ws:List (UInt8 × Int × List En)) (M:List (List En)),(∀w∈ws,Rise w.2.2)→(fold n ws M).length≤M.length+(ws.map fun w=>total w.2.2+1).sum:=by
 intro ws
 induction ws with
 | nil=>intro M _;exact Nat.le_refl _
 | cons w ws ih=>
  intro M hr
  show (fold n ws (go n w.2.2 M)).length≤_
  rw [List.map_cons,List.sum_cons]
  have h1:=go_length n w.2.2 M (hr w (by simp))
  have h2:=ih (go n w.2.2 M) fun v hv=>hr v (List.mem_cons_of_mem _ hv)
  omega
end Fs
theorem own_form {w:World} {B:Nat} {e:TypeId} {z n:Nat} {v:Value} {xs:List Value} (h:w.ownsRow B e z v n xs):∃a cap,v=.slice a n cap∧n≤cap∧cap≤9223372036854775807:=by
 rcases h.2 with ⟨rfl,h0⟩ | ⟨g,cap,cur,rfl,hg,hh,hnc,hcp,hcs,htake⟩
 ·exact ⟨none,0,by rw [h0],by omega,by omega⟩
 ·exact ⟨_,cap,rfl,hnc,by unfold maxLen at hcp;omega⟩
end F12
namespace F12
open Go.RowKit
namespace Fs
theorem txt_len (M:List (List En)):∀t∈txt M,t.length≤6930:=fun t ht=>by
 obtain ⟨l,_,rfl⟩:=List.mem_map.1 ht
 exact bytesN_length (by show (List.map _ (ways l)).length≤256;rw [List.length_map];exact ways_few l)
theorem flat_len:∀(S:List (List UInt8)),(∀t∈S,t.length≤6930)→(S.flatMap id).length≤6930*S.length
 | [],_=>Nat.le_refl _
 | t :: S,h=>by
  have h1:=flat_len S fun x hx=>h x (List.mem_cons_of_mem _ hx)
  have h2:=h t (by simp)
  rw [List.flatMap_cons,List.length_append,List.length_cons]
  have e:(id t).length=t.length:=rfl
  omega
theorem built_no {l:List En} (h:right l≠0):built l=[]:=if_neg h
theorem built_yes {l:List En} (h:right l=0):built l=bytes l:=if_pos h
end Fs
def BuildPost (w:World) (l:List Fs.En) (e:Ending) (w':World):Prop:=e=.returned (.tuple #[.string (bs (Fs.built l)),.int .i64 (Fs.right l)])∧Below w.heap.size w w'
end F12
namespace F12
open Go.RowKit Go.Maps
namespace Fs
structure Group (k:Nat) (c:UInt8) (R:List En) (size:Nat):Prop where
 pos:0<size
 le:size≤R.length
 cut:cut (k+1) (R.take size)=behind (Fs.cut k R) c
 len:∀e∈R.take size,k+1≤e.1.length
 ways:Fs.ways (Fs.cut k R)=(c,Fs.least (behind (Fs.cut k R) c),low (behind (Fs.cut k R) c)) :: Fs.ways (Fs.cut k (R.drop size))
 least:R.drop size=[]→Fs.least (Fs.cut k R)=Fs.least (behind (Fs.cut k R) c)
 more:R.drop size≠[]→Fs.least (Fs.cut k R)=min (Fs.least (behind (Fs.cut k R) c)) (Fs.least (Fs.cut k (R.drop size)))
 rise:Rise (Fs.cut k (R.drop size))
theorem cut_cut (k:Nat) (l:List En):cut (k+1) l=(cut k l).map fun e=>(e.1.tail,e.2):=by
 unfold cut
 rw [List.map_map]
 exact List.map_congr_left fun e _=>by show (e.1.drop (k+1),e.2)=((e.1.drop k).tail,e.2);rw [List.tail_drop]
theorem group {k:Nat} {c:UInt8} {R:List En} (hr:Rise (cut k R)) (h0:0<R.length) (hl:∀e∈R,k<e.1.length) (hc:∀h:k<R[0].1.length,R[0].1[k]=c):Group k c R (grp c (cut k R)).length:=by
 obtain ⟨e0,R',rfl⟩:∃e R',R=e :: R':=by
  cases R with
  | nil=>simp at h0
  | cons e R'=>exact ⟨e,R',rfl⟩
 have hk0:k<e0.1.length:=hl e0 (by simp)
 have hc0:e0.1[k]=c:=hc hk0
 have hcut:cut k (e0 :: R')=(c :: e0.1.drop (k+1),e0.2) :: cut k R':=by
  show (e0.1.drop k,e0.2) :: cut k R'=_
  rw [List.drop_eq_getElem_cons hk0,hc0]
 have hfirst:=rise_first (l:=cut k R') (c:=c) (t:=e0.1.drop (k+1)) (o:=e0.2) (by rw [←hcut];exact hr)
 have hways:=ways_cons (l:=cut k R') (c:=c) (t:=e0.1.drop (k+1)) (o:=e0.2) (by rw [←hcut];exact hr)
 rw [←hcut] at hfirst hways
 obtain ⟨R,hR⟩:∃R,R=e0 :: R':=⟨_,rfl⟩
 clear hc
 rw [←hR] at hfirst hways hr h0 hl hcut ⊢
 have hgl:(grp c (cut k R)).length≤R.length:=by
  have:=(List.takeWhile_sublist (l:=cut k R) (hd c)).length_le
  rw [cut_length] at this
  exact this
 have htake:cut k (R.take (grp c (cut k R)).length)=grp c (cut k R):=by
  have h:=congrArg (List.take (grp c (cut k R)).length) (grp_rst c (cut k R))
  rw [List.take_left] at h
  rw [cut_take]
  exact h.symm
 have hdrop:cut k (R.drop (grp c (cut k R)).length)=rst c (cut k R):=by
  have h:=congrArg (List.drop (grp c (cut k R)).length) (grp_rst c (cut k R))
  rw [List.drop_left] at h
  rw [cut_drop]
  exact h.symm
 have hpos:0<(grp c (cut k R)).length:=by
  rw [hcut]
  unfold grp
  rw [List.takeWhile_cons,if_pos (by simp [hd])]
  simp
 have hbg:=behind_grp hr hfirst
 have hb:cut (k+1) (R.take (grp c (cut k R)).length)=behind (cut k R) c:=by rw [cut_cut,htake,hbg]
 have hls:Fs.least (behind (cut k R) c)=Fs.least (grp c (cut k R)):=by rw [hbg];exact least_map _ _
 refine ⟨hpos,hgl,hb,fun e he=>?_,by rw [hdrop];exact hways,fun h=>?_,fun h=>?_,by rw [hdrop];exact rise_rst hr⟩
 ·have:=hl e (List.mem_of_mem_take he)
  omega
 ·have h1:rst c (cut k R)=[]:=by rw [←hdrop,h];rfl
  rw [hls]
  conv=>lhs;rw [←grp_rst c (cut k R),h1,List.append_nil]
 ·have h1:rst c (cut k R)≠[]:=by
   rw [←hdrop]
   intro q
   exact h (List.map_eq_nil_iff.1 q)
  rw [hls,hdrop]
  conv=>lhs;rw [←grp_rst c (cut k R)]
  exact least_append _ _ (fun q=>by rw [q] at hpos;simp at hpos) h1
def wys (M:List (List En)) (ws:List (UInt8 × Int × List En)):List Wy:=ws.map fun w=>(w.1,w.2.1,at_ M w.2.2)
theorem wys_same {M K:List (List En)} {ws:List (UInt8 × Int × List En)} (h:∀w∈ws,w.2.2∈M):wys (M++K) ws=wys M ws:=
 List.map_congr_left fun w hw=>by rw [at_append (h w hw)]
theorem wys_snoc (M:List (List En)) (ws:List (UInt8 × Int × List En)) (w:UInt8 × Int × List En):wys M (ws++[w])=wys M ws++[(w.1,w.2.1,at_ M w.2.2)]:=by simp [wys]
theorem node_low (M:List (List En)) (l:List En):node M (low l)=lessN (last l) (wys M (ways l)) (least l):=by
 unfold node lessN wys
 rw [low_add_eq,last_add,ways_add,List.map_map,List.map_map]
 congr 1
def place (M:List (List En)) (t:List UInt8):Option Nat:=if t∈txt M then some ((txt M).findIdx (· == t)) else none
theorem place_node {M:List (List En)} (h:Net M) (hM:(M.length:Int)≤mx) (hlw:∀k∈M,Lw k) {l:List En} (hl:Rise l) (hlwl:Lw l) (hw:∀w∈ways l,w.2.2∈M):place M (nodeB M l)=if l∈M then some (at_ M l) else none:=by
 unfold place
 by_cases hm:l∈M
 ·rw [if_pos hm,if_pos ((mem_txt h hM hlw hl hlwl hw).2 hm)]
  congr 1
  have hi:=at_lt hm
  have hg:=at_get hm
  have hlt:at_ M l<(txt M).length:=by rw [txt_length];exact hi
  rw [List.findIdx_eq hlt]
  refine ⟨by simp [txt,hg],fun j hj=>?_⟩
  have hjl:j<M.length:=by omega
  simp only [txt,List.getElem_map,beq_eq_false_iff_ne]
  intro e
  have e2:=txt_inj h hM hlw hl hlwl hw (List.getElem_mem hjl) e
  have e3:=at_of h.nodup hjl
  rw [e2] at e3
  omega
 ·rw [if_neg hm,if_neg (fun q=>hm ((mem_txt h hM hlw hl hlwl hw).1 q))]
theorem place_snoc {M:List (List En)} (h:Net M) {l:List En} (hw:∀w∈ways l,w.2.2∈M) (hn:nodeB M l∉txt M) (t:List UInt8):place (M++[l]) t=if t=nodeB M l then some M.length else place M t:=by
 unfold place
 rw [txt_snoc h hw]
 by_cases e:t=nodeB M l
 ·subst e
  rw [if_pos rfl,if_pos (by simp),List.findIdx_append]
  congr 1
  rw [if_neg]
  ·simp [txt_length]
  ·intro q
   have h1:=List.findIdx_getElem (p:=(· == nodeB M l)) (xs:=txt M) (w:=q)
   have h2:=eq_of_beq h1
   exact hn (h2 ▸ List.getElem_mem q)
 ·rw [if_neg e]
  by_cases hm:t∈txt M
  ·rw [if_pos hm,if_pos (List.mem_append_left _ hm),List.findIdx_append,if_pos (List.findIdx_lt_length_of_exists ⟨t,hm,by simp⟩)]
  ·rw [if_neg hm,if_neg]
   intro q
   rcases List.mem_append.1 q with q | q
   ·exact hm q
   ·exact e (List.mem_singleton.1 q)
end Fs
def plcF (M:List (List Fs.En)):Lit→Option Value
 | .string s=>(Fs.place M s).map fun (i:Nat)=>.int .i64 (i:Int)
 | _=>none
theorem lawS:Keyed Tryz.prog 9:=string_keyed Tryz.underlying9
theorem zeroI (w:World):(zeroValue 3).run Tryz.prog w=.ok (.int .i64 0) w:=by kernel_rfl
theorem keyS_of (t:List UInt8) (h:t.length≤maxLen):keyOf Tryz.prog 9 (.string (bs t))=some (.string t):=by
 have h1:=Go.WideMaps.keyOf_string_mk (P:=Tryz.prog) Tryz.underlying9 (s:=bs t) (by rw [bs_size];exact h)
 rw [h1]
 rw [bs_data]
theorem _root_.Go.Proofs.YtmdefnbpimfbgaaGreatDoor.MapG.kt {k:TypeId} {w w':World} {b n:Nat} {F:Lit→Option Value} (h:MapG k w b n F) (e:w'.heap[b]?=w.heap[b]?):MapG k w' b n F:=h.keep e
theorem _root_.Go.Proofs.YtmdefnbpimfbgaaGreatDoor.MapG.kindT {k:TypeId} {w:World} {b n:Nat} {F:Lit→Option Value} (h:MapG k w b n F):∀(c:Array Value) (t:TypeId) (fz:Nat × Nat),w.heap[b]?≠some (Obj.cells c t fz):=by
 obtain ⟨D,⟨es,clock,hb,_⟩,_⟩:=h
 intro c t fz e
 rw [hb] at e
 cases e
structure PkA (w:World) (B tb pb mb wb:Nat) (tv:Value) (M:List (List Fs.En)):Prop where
 tbox:RowT 73 w tb #[tv]
 pbox:RowT 95 w pb #[.map (some mb)]
 wbox:RowT 112 w wb #[.func (.func 62) #[] #[.pointer (some ⟨wb,0,none⟩),.pointer (some ⟨pb,0,none⟩),.pointer (some ⟨tb,0,none⟩)]]
 tbase:B≤tb
 mbase:B≤mb
 text:w.ownsRow B 9 1 tv M.length (strV (Fs.txt M))
 map:MapG 9 w mb M.length (plcF M)
theorem PkA.keep {w w':World} {B tb pb mb wb:Nat} {tv:Value} {M:List (List Fs.En)} (h:PkA w B tb pb mb wb tv M) (hb:Below w.heap.size w w'):PkA w' B tb pb mb wb tv M:=
 ⟨h.tbox.keep (hb.block _ h.tbox.lt),h.pbox.keep (hb.block _ h.pbox.lt),h.wbox.keep (hb.block _ h.wbox.lt),h.tbase,h.mbase,ownsRow_keep h.text fun k hk=>hb.block k (own_kind h.text k hk).2.1,h.map.kt (hb.block _ h.map.lt)⟩
theorem PkA.put {w w1 w3:World} {B tb pb mb wb g cap:Nat} {tv:Value} {M:List (List Fs.En)} {l:List Fs.En} (h:PkA w B tb pb mb wb tv M) (hN:Fs.Net M) (hw:∀x∈Fs.ways l,x.2.2∈M) (hn:Fs.nodeB M l∉Fs.txt M)
  (hm:MapG 9 w1 mb (M.length+1) (updG (plcF M) (.string (Fs.nodeB M l)) (some (.int .i64 (M.length:Int))))) (h1:w.grownBy w1 (some mb))
  (h3:w3.ownsRow B 9 1 (.slice (some ⟨g,0,none⟩) (M.length+1) cap) (M.length+1) (strV (Fs.txt M)++[.string (bs (Fs.nodeB M l))])) (hg:Grew w1 w3 tv (.slice (some ⟨g,0,none⟩) (M.length+1) cap)):
  (w3.cell? ⟨tb,0,none⟩=some tv∧w3.frozen? ⟨tb,0,none⟩=false)∧PkA (w3.setCell ⟨tb,0,none⟩ (.slice (some ⟨g,0,none⟩) (M.length+1) cap)) B tb pb mb wb (.slice (some ⟨g,0,none⟩) (M.length+1) cap) (M++[l])∧KeptT [115,118,29] B w (w3.setCell ⟨tb,0,none⟩ (.slice (some ⟨g,0,none⟩) (M.length+1) cap)):=by
 have k0:∀T,KeptT T B w w1:=fun T=>KeptT.one mb ⟨h1.os,h1.tape,h1.output,h1.size,fun k hk hf=>h1.block k hk (fun e=>hf (by injection e))⟩ h.mbase fun c t fz hc=>absurd hc (h.map.kindT c t fz)
 have t1:w1.ownsRow B 9 1 tv M.length (strV (Fs.txt M)):=ownsRow_kt h.text (k0 [9]) (by decide)
 have k1:KeptT [115,118,29,73,95,112] B w w3:=(k0 _).trans (hg.keptT t1 (by decide))
 have b3:RowT 73 w3 tb #[tv]:=h.tbox.keep (k1.kind tb _ _ _ h.tbox (by decide))
 have p3:RowT 95 w3 pb _:=h.pbox.keep (k1.kind pb _ _ _ h.pbox (by decide))
 have q3:RowT 112 w3 wb _:=h.wbox.keep (k1.kind wb _ _ _ h.wbox (by decide))
 have k2:KeptT [115,118,29,9,95,112] B w3 (w3.setCell ⟨tb,0,none⟩ (.slice (some ⟨g,0,none⟩) (M.length+1) cap)):=KeptT.set tb 0 _ h.tbase fun c t fz hc=>by
  rw [kind_inj hc b3]
  decide
 have m3:w3.heap[mb]?=w1.heap[mb]?:=hg.far hm.lt fun e=>by
  obtain ⟨_,_,c,fz,hc⟩:=own_kind t1 mb e
  exact hm.kindT c _ fz hc
 have hne:mb≠tb:=fun e=>by
  subst e
  exact h.map.kindT _ _ _ h.tbox
 rw [strV_snoc,←Fs.txt_snoc hN hw] at h3
 refine ⟨⟨b3.cell 0,b3.frozen 0⟩,⟨b3.set 0 _,p3.keep (k2.kind pb _ _ _ p3 (by decide)),q3.keep (k2.kind wb _ _ _ q3 (by decide)),h.tbase,h.mbase,?_,?_⟩,(k1.less (by decide)).trans (k2.less (by decide))⟩
 ·have:=ownsRow_kt h3 k2 (by decide)
  simpa using this
 ·have h5:MapG 9 (w3.setCell ⟨tb,0,none⟩ (.slice (some ⟨g,0,none⟩) (M.length+1) cap)) mb (M.length+1) (updG (plcF M) (.string (Fs.nodeB M l)) (some (.int .i64 (M.length:Int)))):=hm.kt ((heap_other _ _ _ _ _ hne).trans m3)
  rw [List.length_append,List.length_singleton]
  refine h5.congr fun kl hk=>?_
  cases kl with
  | string s=>
   by_cases e:s=Fs.nodeB M l
   ·subst e
    rw [updG_same]
    show _=(Fs.place (M++[l]) (Fs.nodeB M l)).map _
    rw [Fs.place_snoc hN hw hn,if_pos rfl]
    rfl
   ·rw [updG_other _ _ _ _ (fun q=>e (by injection q))]
    show (Fs.place M s).map _=(Fs.place (M++[l]) s).map _
    rw [Fs.place_snoc hN hw hn,if_neg e]
  | _=>rw [updG_other _ _ _ _ (fun q=>by cases q)];rfl
end F12
end Go.Proofs.YtmdefnbpimfbgaaGreatDoor

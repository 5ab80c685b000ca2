/-
  Lemmas on automata, dictionaries and the walk over them, the program's calls and the given ones.
-/
import Derived.Test.YtmdefnbpimfbgaaGreatDoorQ3
set_option maxRecDepth 100000
set_option maxHeartbeats 16000000
namespace Go.Proofs.YtmdefnbpimfbgaaGreatDoor
namespace F12.Fs
abbrev En:=List UInt8 × Int
def least:List En→Int
 | []=>0
 | [e]=>e.2
 | e :: f :: l=>min e.2 (least (f :: l))
def behind (l:List En) (c:UInt8):List En:=l.filterMap fun e=>match e.1 with
 | []=>none
 | b :: t=>if b=c then some (t,e.2) else none
def low (l:List En):List En:=l.map fun e=>(e.1,e.2-least l)
def lt:List UInt8→List UInt8→Bool
 | [],[]=>false
 | [],_ :: _=>true
 | _ :: _,[]=>false
 | a :: s,b :: t=>decide (a.toNat<b.toNat)||(decide (a=b)&&lt s t)
theorem lt_irrefl:∀s,lt s s=false
 | []=>rfl
 | a :: s=>by simp [lt,lt_irrefl s]
theorem lt_trans:∀ {a b c:List UInt8},lt a b=true→lt b c=true→lt a c=true
 | [],[],_,h,_=>by simp [lt] at h
 | [],_ :: _,[],_,h=>by simp [lt] at h
 | [],_ :: _,_ :: _,_,_=>rfl
 | _ :: _,[],_,h,_=>by simp [lt] at h
 | _ :: _,_ :: _,[],_,h=>by simp [lt] at h
 | x :: a,y :: b,z :: c,h,g=>by
  simp only [lt,Bool.or_eq_true,Bool.and_eq_true,decide_eq_true_eq] at h g ⊢
  rcases h with h | ⟨rfl,h⟩ <;> rcases g with g | ⟨rfl,g⟩
  ·exact .inl (by omega)
  ·exact .inl h
  ·exact .inl g
  ·exact .inr ⟨rfl,lt_trans h g⟩
theorem lt_asymm {a b:List UInt8} (h:lt a b=true):lt b a=false:=by
 cases e:lt b a
 ·rfl
 ·have:=lt_trans h e
  rw [lt_irrefl] at this
  cases this
def Rise (l:List En):Prop:=l.Pairwise fun a b=>lt a.1 b.1=true
theorem rise_ext:∀ {l k:List En},Rise l→Rise k→(∀e,e∈l↔e∈k)→l=k
 | [],[],_,_,_=>rfl
 | [],f :: k,_,_,h=>by have:=(h f).2 (by simp);cases this
 | e :: l,[],_,_,h=>by have:=(h e).1 (by simp);cases this
 | e :: l,f :: k,hl,hk,h=>by
  obtain ⟨h1,h2⟩:=List.pairwise_cons.1 hl
  obtain ⟨h3,h4⟩:=List.pairwise_cons.1 hk
  have he:e=f:=by
   rcases List.mem_cons.1 ((h e).1 (by simp)) with q | q
   ·exact q
   ·rcases List.mem_cons.1 ((h f).2 (by simp)) with p | p
    ·exact p.symm
    ·have a1:=h3 e q
     have a2:=h1 f p
     rw [lt_asymm a1] at a2
     cases a2
  subst he
  have:l=k:=rise_ext h2 h4 fun g=>by
   have hne:∀(m:List En),(∀x∈m,lt e.1 x.1=true)→e∉m:=fun m hm q=>by
    have:=hm e q
    rw [lt_irrefl] at this
    cases this
   constructor
   ·intro hg
    rcases List.mem_cons.1 ((h g).1 (List.mem_cons_of_mem _ hg)) with q | q
    ·subst q;exact absurd hg (hne l h1)
    ·exact q
   ·intro hg
    rcases List.mem_cons.1 ((h g).2 (List.mem_cons_of_mem _ hg)) with q | q
    ·subst q;exact absurd hg (hne k h3)
    ·exact q
  rw [this]
theorem mem_behind {l:List En} {c:UInt8} {e:En}:e∈behind l c↔(c :: e.1,e.2)∈l:=by
 unfold behind
 rw [List.mem_filterMap]
 constructor
 ·rintro ⟨⟨t,o⟩,h1,h2⟩
  cases t with
  | nil=>cases h2
  | cons b t=>
   dsimp only at h2
   split at h2
   ·rename_i h;subst h;cases h2;exact h1
   ·cases h2
 ·intro h
  exact ⟨_,h,by simp⟩
theorem behind_rise {l:List En} (h:Rise l) (c:UInt8):Rise (behind l c):=by
 unfold Rise behind at *
 rw [List.pairwise_filterMap]
 refine h.imp fun {a b} hab x hx y hy=>?_
 obtain ⟨ta,oa⟩:=a
 obtain ⟨tb,ob⟩:=b
 cases ta with
 | nil=>cases hx
 | cons p s=>
  cases tb with
  | nil=>cases hy
  | cons q t=>
   dsimp only at hx hy
   split at hx
   ·split at hy
    ·rename_i h1 h2
     subst h1 h2
     cases hx
     cases hy
     simpa [lt] using hab
    ·cases hy
   ·cases hx
theorem low_rise {l:List En} (h:Rise l):Rise (low l):=by
 unfold Rise low at *
 rw [List.pairwise_map]
 exact h
def last (l:List En):Option Int:=match l with
 | ([],o) :: _=>some o
 | _=>none
theorem last_mem {l:List En} (h:Rise l) {o:Int}:last l=some o↔([],o)∈l:=by
 cases l with
 | nil=>simp [last]
 | cons e l=>
  obtain ⟨h1,_⟩:=List.pairwise_cons.1 h
  obtain ⟨t,p⟩:=e
  cases t with
  | nil=>
   constructor
   ·intro q
    cases q
    simp
   ·intro q
    rcases List.mem_cons.1 q with q | q
    ·cases q;rfl
    ·have:=h1 _ q
     simp [lt] at this
  | cons b t=>
   constructor
   ·intro q
    cases q
   ·intro q
    rcases List.mem_cons.1 q with q | q
    ·cases q
    ·have:=h1 _ q
     simp [lt] at this
def ways (l:List En):List (UInt8 × Int × List En):=(List.range 256).filterMap fun n=>if behind l n.toUInt8=[] then none else some (n.toUInt8,least (behind l n.toUInt8),low (behind l n.toUInt8))
theorem byte_nat (c:UInt8):c.toNat.toUInt8=c∧c.toNat<256:=⟨by simp,c.toNat_lt⟩
theorem mem_ways {l:List En} {c:UInt8} {m:Int} {r:List En}:(c,m,r)∈ways l↔behind l c≠[]∧m=least (behind l c)∧r=low (behind l c):=by
 unfold ways
 rw [List.mem_filterMap]
 constructor
 ·rintro ⟨n,_,h⟩
  split at h
  ·cases h
  ·rename_i h1
   cases h
   exact ⟨h1,rfl,rfl⟩
 ·rintro ⟨h1,rfl,rfl⟩
  refine ⟨c.toNat,List.mem_range.2 (byte_nat c).2,?_⟩
  rw [(byte_nat c).1,if_neg h1]
theorem node_tells {l k:List En} (hl:Rise l) (hk:Rise k) (h1:last l=last k) (h2:ways l=ways k):l=k:=by
 have key:∀ {l k:List En},Rise l→Rise k→last l=last k→ways l=ways k→∀e,e∈l→e∈k:=by
  intro l k hl hk h1 h2 e he
  obtain ⟨t,o⟩:=e
  cases t with
  | nil=>
   have:=(last_mem hl).2 he
   rw [h1] at this
   exact (last_mem hk).1 this
  | cons c t=>
   have hb:(t,o)∈behind l c:=mem_behind.2 he
   have hne:behind l c≠[]:=fun q=>by rw [q] at hb;cases hb
   have hw:(c,least (behind l c),low (behind l c))∈ways k:=by
    rw [←h2]
    exact mem_ways.2 ⟨hne,rfl,rfl⟩
   obtain ⟨_,q1,q2⟩:=mem_ways.1 hw
   have hlow:(t,o-least (behind l c))∈low (behind k c):=by
    rw [←q2]
    exact List.mem_map.2 ⟨_,hb,rfl⟩
   obtain ⟨⟨t',o'⟩,q3,q4⟩:=List.mem_map.1 hlow
   simp only [Prod.mk.injEq] at q4
   obtain ⟨rfl,q5⟩:=q4
   have:o'=o:=by omega
   subst this
   exact mem_behind.1 q3
 exact rise_ext hl hk fun e=>⟨key hl hk h1 h2 e,key hk hl h1.symm h2.symm e⟩
theorem least_le:∀ {l:List En} {e:En},e∈l→least l≤e.2
 | [f],e,h=>by
  simp at h
  subst h
  exact Int.le_refl _
 | f :: g :: l,e,h=>by
  rcases List.mem_cons.1 h with rfl | h
  ·exact Int.min_le_left _ _
  ·exact Int.le_trans (Int.min_le_right _ _) (least_le h)
theorem least_mem:∀ {l:List En},l≠[]→∃e∈l,e.2=least l
 | [],h=>absurd rfl h
 | [e],_=>⟨e,by simp,rfl⟩
 | e :: f :: l,_=>by
  obtain ⟨g,h1,h2⟩:=least_mem (l:=f :: l) (by simp)
  by_cases h:e.2≤least (f :: l)
  ·exact ⟨e,by simp,(Int.min_eq_left h).symm⟩
  ·exact ⟨g,List.mem_cons_of_mem _ h1,by rw [h2];exact (Int.min_eq_right (by omega)).symm⟩
end F12.Fs
namespace F12.Fs
def go:Nat→List En→List (List En)→List (List En)
 | 0,_,M=>M
 | n+1,l,M=>if l∈M then M else (ways l).foldl (fun M w=>go n w.2.2 M) M++[l]
def deep (l:List En):Nat:=l.foldr (fun e n=>max e.1.length n) 0
theorem deep_le {l:List En} {e:En} (h:e∈l):e.1.length≤deep l:=by
 induction l with
 | nil=>cases h
 | cons f l ih=>
  show _≤max f.1.length (deep l)
  rcases List.mem_cons.1 h with rfl | h
  ·omega
  ·have:=ih h;omega
theorem deep_of {l:List En} {n:Nat} (h:∀e∈l,e.1.length≤n):deep l≤n:=by
 induction l with
 | nil=>exact Nat.zero_le _
 | cons f l ih=>
  show max f.1.length (deep l)≤n
  have:=h f (by simp)
  have:=ih fun e he=>h e (List.mem_cons_of_mem _ he)
  omega
theorem deep_way {l:List En} {w:UInt8 × Int × List En} (h:w∈ways l):deep w.2.2<deep l:=by
 obtain ⟨c,m,r⟩:=w
 obtain ⟨h1,_,rfl⟩:=mem_ways.1 h
 have h2:∀e∈low (behind l c),e.1.length+1≤deep l:=fun e he=>by
  obtain ⟨f,h3,rfl⟩:=List.mem_map.1 he
  have:=deep_le (mem_behind.1 h3)
  simpa using this
 obtain ⟨e,he⟩:=List.exists_mem_of_ne_nil _ h1
 have h3:=h2 (e.1,e.2-least (behind l c)) (List.mem_map.2 ⟨e,he,rfl⟩)
 have:deep (low (behind l c))≤deep l-1:=deep_of fun e he=>by have:=h2 e he;omega
 show deep (low (behind l c))<deep l
 omega
structure Good (l:List En):Prop where
 ne:l≠[]
 rise:Rise l
 least:least l=0
theorem low_least {l:List En} (h:l≠[]):Fs.least (low l)=0:=by
 have hne:low l≠[]:=fun q=>h (List.map_eq_nil_iff.1 q)
 obtain ⟨e,h1,h2⟩:=least_mem hne
 obtain ⟨f,h3,rfl⟩:=List.mem_map.1 h1
 obtain ⟨g,h4,h5⟩:=least_mem h
 have h6:=least_le (l:=low l) (e:=(g.1,g.2-Fs.least l)) (List.mem_map.2 ⟨g,h4,rfl⟩)
 have h7:=least_le h3
 dsimp only at h2 h6
 omega
theorem good_low {l:List En} (h:l≠[]) (hr:Rise l):Good (low l):=⟨fun q=>h (List.map_eq_nil_iff.1 q),low_rise hr,low_least h⟩
theorem good_way {l:List En} (h:Rise l) {w:UInt8 × Int × List En} (hw:w∈ways l):Good w.2.2:=by
 obtain ⟨c,m,r⟩:=w
 obtain ⟨h1,_,rfl⟩:=mem_ways.1 hw
 exact good_low h1 (behind_rise h c)
structure Net (M:List (List En)):Prop where
 nodup:M.Nodup
 good:∀l∈M,Good l
 ahead:∀(i:Nat) l,M[i]?=some l→∀w∈ways l,w.2.2∈M.take i
theorem net_nil:Net []:=⟨List.nodup_nil,fun _ h=>(by cases h),fun i l h=>(by simp at h)⟩
theorem net_snoc {M:List (List En)} (h:Net M) {l:List En} (hl:Good l) (hn:l∉M) (hw:∀w∈ways l,w.2.2∈M):Net (M++[l]):=by
 refine ⟨?_,fun k hk=>?_,fun i k hk w hkw=>?_⟩
 ·rw [List.nodup_append]
  refine ⟨h.nodup,by simp,fun a ha b hb=>?_⟩
  rw [List.mem_singleton.1 hb]
  rintro rfl
  exact hn ha
 ·rcases List.mem_append.1 hk with hk | hk
  ·exact h.good k hk
  ·rw [List.mem_singleton.1 hk];exact hl
 ·by_cases hi:i<M.length
  ·rw [List.getElem?_append_left hi] at hk
   rw [List.take_append_of_le_length (by omega)]
   exact h.ahead i k hk w hkw
  ·have hlt:=(List.getElem?_eq_some_iff.1 hk).1
   simp at hlt
   obtain rfl:i=M.length:=by omega
   simp at hk
   subst hk
   rw [List.take_left']
   ·exact hw w hkw
   ·rfl
theorem go_net:∀(n:Nat) (l:List En) (M:List (List En)),Net M→Good l→deep l<n→Net (go n l M)∧(∃K,go n l M=M++K)∧l∈go n l M
 | 0,_,_,_,_,h=>by omega
 | n+1,l,M,hM,hl,hd=>by
  unfold go
  by_cases hin:l∈M
  ·rw [if_pos hin]
   exact ⟨hM,⟨[],by simp⟩,hin⟩
  ·rw [if_neg hin]
   have key:∀(ws:List (UInt8 × Int × List En)) (M:List (List En)),Net M→l∉M→(∀w∈ws,w∈ways l)→Net (ws.foldl (fun M w=>go n w.2.2 M) M)∧(∃K,ws.foldl (fun M w=>go n w.2.2 M) M=M++K∧∀k∈K,deep k<deep l)∧∀w∈ws,w.2.2∈ws.foldl (fun M w=>go n w.2.2 M) M:=by
    intro ws
    induction ws with
    | nil=>intro M hM _ _;exact ⟨hM,⟨[],by simp,fun _ h=>(by cases h)⟩,fun _ h=>(by cases h)⟩
    | cons w ws ih=>
     intro M hM hn hw
     have hww:=hw w (by simp)
     obtain ⟨a1,⟨K,a2⟩,a3⟩:=go_net n w.2.2 M hM (good_way hl.rise hww) (by have:=deep_way hww;omega)
     have a4:=go_deep n w.2.2 M
     rw [List.foldl_cons]
     have hn2:l∉go n w.2.2 M:=fun q=>by
      rcases a4 l q with q | q
      ·exact hn q
      ·have:=deep_way hww;omega
     obtain ⟨b1,⟨K2,b2,b4⟩,b3⟩:=ih (go n w.2.2 M) a1 hn2 fun v hv=>hw v (List.mem_cons_of_mem _ hv)
     refine ⟨b1,⟨K++K2,by rw [b2,a2,List.append_assoc],fun k hk=>?_⟩,fun v hv=>?_⟩
     ·rcases List.mem_append.1 hk with hk | hk
      ·have hk2:k∈go n w.2.2 M:=by rw [a2];exact List.mem_append_right _ hk
       rcases a4 k hk2 with q | q
       ·
        have:=a1.nodup
        rw [a2,List.nodup_append] at this
        exact absurd rfl (this.2.2 k q k hk)
       ·have:=deep_way hww;omega
      ·exact b4 k hk
     ·rcases List.mem_cons.1 hv with rfl | hv
      ·rw [b2];exact List.mem_append_left _ a3
      ·exact b3 v hv
   obtain ⟨c1,⟨K,c2,c4⟩,c3⟩:=key (ways l) M hM hin fun _ h=>h
   have hn3:l∉(ways l).foldl (fun M w=>go n w.2.2 M) M:=fun q=>by
    rw [c2] at q
    rcases List.mem_append.1 q with q | q
    ·exact hin q
    ·have:=c4 l q;omega
   exact ⟨net_snoc c1 hl hn3 c3,⟨K++[l],by rw [c2,List.append_assoc]⟩,by simp⟩
 where
 go_deep:∀(n:Nat) (l:List En) (M:List (List En)),∀k∈go n l M,k∈M∨deep k≤deep l
 | 0,_,_=>fun k h=>.inl h
 | n+1,l,M=>fun k hk=>by
  unfold go at hk
  split at hk
  ·exact .inl hk
  ·rcases List.mem_append.1 hk with hk | hk
   ·have key:∀(ws:List (UInt8 × Int × List En)) (M:List (List En)),(∀w∈ws,w∈ways l)→∀k∈ws.foldl (fun M w=>go n w.2.2 M) M,k∈M∨deep k≤deep l:=by
     intro ws
     induction ws with
     | nil=>intro M _ k hk;exact .inl hk
     | cons w ws ih=>
      intro M hw k hk
      rw [List.foldl_cons] at hk
      rcases ih _ (fun v hv=>hw v (List.mem_cons_of_mem _ hv)) k hk with q | q
      ·rcases go_deep n w.2.2 M k q with q | q
       ·exact .inl q
       ·have:=deep_way (hw w (by simp));exact .inr (by omega)
      ·exact .inr q
    exact key (ways l) M (fun _ h=>h) k hk
   ·rw [List.mem_singleton.1 hk];exact .inr (Nat.le_refl _)
def nodes (l:List En):List (List En):=if l=[] then [] else go (deep l+1) (low l) []
theorem deep_low (l:List En):deep (low l)=deep l:=by
 unfold deep low
 rw [List.foldr_map]
theorem nodes_net {l:List En} (h:Rise l):Net (nodes l):=by
 unfold nodes
 by_cases hl:l=[]
 ·rw [if_pos hl];exact net_nil
 ·rw [if_neg hl]
  exact (go_net _ _ _ net_nil (good_low hl h) (by rw [deep_low];omega)).1
theorem nodes_last {l:List En} (h:l≠[]):∃K,nodes l=K++[low l]:=by
 unfold nodes
 rw [if_neg h]
 unfold go
 rw [if_neg (by simp)]
 exact ⟨_,rfl⟩
end F12.Fs
namespace F12.Fs
def up (c:UInt8) (m:Int) (l:List En):List En:=l.map fun e=>(c :: e.1,e.2+m)
theorem ways_rise (l:List En):(ways l).Pairwise fun a b=>a.1.toNat<b.1.toNat:=by
 unfold ways
 rw [List.pairwise_filterMap]
 have hr:(List.range 256).Pairwise fun a b=>a<b∧b<256:=by
  rw [List.pairwise_iff_getElem]
  intro i j hi hj hij
  simp at hi hj ⊢
  omega
 refine hr.imp fun {a b} hab x hx y hy=>?_
 split at hx
 ·cases hx
 ·split at hy
  ·cases hy
  ·cases hx
   cases hy
   show a.toUInt8.toNat<b.toUInt8.toNat
   rw [UInt8.toNat_ofNat',UInt8.toNat_ofNat']
   omega
theorem told {l:List En} (h:Rise l):l=(match last l with | some o=>[([],o)] | none=>[])++(ways l).flatMap fun w=>up w.1 w.2.1 w.2.2:=by
 refine rise_ext h ?_ fun e=>?_
 ·unfold Rise
  rw [List.pairwise_append]
  refine ⟨?_,?_,?_⟩
  ·cases last l with
   | none=>exact .nil
   | some o=>exact List.pairwise_singleton _ _
  ·rw [List.pairwise_flatMap]
   refine ⟨fun w hw=>?_,?_⟩
   ·unfold up
    rw [List.pairwise_map]
    refine ((good_way h hw).rise).imp fun {a b} hab=>?_
    simpa [lt] using hab
   ·refine (ways_rise l).imp fun {a b} hab x hx y hy=>?_
    obtain ⟨x',_,rfl⟩:=List.mem_map.1 hx
    obtain ⟨y',_,rfl⟩:=List.mem_map.1 hy
    simp [lt,hab]
  ·intro a ha b hb
   obtain ⟨w,_,hb⟩:=List.mem_flatMap.1 hb
   obtain ⟨b',_,rfl⟩:=List.mem_map.1 hb
   cases hl:last l with
   | none=>rw [hl] at ha;cases ha
   | some o=>
    rw [hl] at ha
    rw [List.mem_singleton.1 ha]
    rfl
 ·rw [List.mem_append,List.mem_flatMap]
  obtain ⟨t,o⟩:=e
  constructor
  ·intro he
   cases t with
   | nil=>
    left
    rw [(last_mem h).2 he]
    simp
   | cons c t=>
    right
    have hb:(t,o)∈behind l c:=mem_behind.2 he
    refine ⟨(c,least (behind l c),low (behind l c)),mem_ways.2 ⟨fun q=>(by rw [q] at hb;cases hb),rfl,rfl⟩,?_⟩
    refine List.mem_map.2 ⟨(t,o-least (behind l c)),List.mem_map.2 ⟨_,hb,rfl⟩,?_⟩
    simp only [Prod.mk.injEq,true_and]
    omega
  ·rintro (he | ⟨⟨c,m,r⟩,hw,he⟩)
   ·cases hl:last l with
    | none=>rw [hl] at he;cases he
    | some p=>
     rw [hl] at he
     rw [List.mem_singleton.1 he]
     exact (last_mem h).1 hl
   ·obtain ⟨_,rfl,rfl⟩:=mem_ways.1 hw
    obtain ⟨f,h1,h2⟩:=List.mem_map.1 he
    obtain ⟨⟨t',o'⟩,h3,rfl⟩:=List.mem_map.1 h1
    simp only [Prod.mk.injEq] at h2
    obtain ⟨rfl,rfl⟩:=h2
    have:=mem_behind.1 h3
    rw [show o'-least (behind l c)+least (behind l c)=o' by omega]
    exact this
def at_ (M:List (List En)) (r:List En):Nat:=M.findIdx (· == r)
theorem at_lt {M:List (List En)} {r:List En} (h:r∈M):at_ M r<M.length:=List.findIdx_lt_length_of_exists ⟨r,h,by simp⟩
theorem at_get {M:List (List En)} {r:List En} (h:r∈M):M[at_ M r]'(at_lt h)=r:=by
 have:=List.findIdx_getElem (p:=(· == r)) (xs:=M) (w:=at_lt h)
 exact eq_of_beq this
theorem at_inj {M:List (List En)} {r s:List En} (hr:r∈M) (hs:s∈M) (h:at_ M r=at_ M s):r=s:=by
 rw [←at_get hr,←at_get hs]
 simp only [h]
theorem at_of {M:List (List En)} (h:M.Nodup) {i:Nat} (hi:i<M.length):at_ M M[i]=i:=by
 have h1:=at_get (List.getElem_mem hi)
 exact (List.getElem_inj h).1 h1
theorem at_append {M K:List (List En)} {r:List En} (h:r∈M):at_ (M++K) r=at_ M r:=by
 unfold at_
 rw [List.findIdx_append,if_pos (show List.findIdx (· == r) M<M.length from at_lt h)]
theorem at_take {M:List (List En)} {r:List En} {i:Nat} (h:r∈M.take i):at_ M r<i:=by
 have h2:=at_append (K:=M.drop i) h
 rw [List.take_append_drop] at h2
 rw [h2]
 have:=at_lt h
 rw [List.length_take] at this
 omega
def node (M:List (List En)) (l:List En):Option Int × List (UInt8 × Int × Nat):=(last l,(ways l).map fun w=>(w.1,w.2.1,at_ M w.2.2))
end F12.Fs
namespace F12.Fs
def add (d:Int) (l:List En):List En:=l.map fun e=>(e.1,e.2+d)
theorem low_add_eq (l:List En):low l=add (-(least l)) l:=by
 unfold low add
 exact List.map_congr_left fun e _=>by rw [Int.sub_eq_add_neg]
theorem least_add (d:Int):∀(l:List En),l≠[]→least (add d l)=least l+d
 | [],h=>absurd rfl h
 | [e],_=>rfl
 | e :: f :: l,_=>by
  have ih:=least_add d (f :: l) (by simp)
  show min (e.2+d) (least (add d (f :: l)))=min e.2 (least (f :: l))+d
  rw [ih]
  omega
theorem add_add (c d:Int) (l:List En):add c (add d l)=add (d+c) l:=by
 unfold add
 rw [List.map_map]
 exact List.map_congr_left fun e _=>by show (e.1,e.2+d+c)=_;rw [Int.add_assoc]
theorem add_zero (l:List En):add 0 l=l:=by
 unfold add
 rw [show (fun e:En=>(e.1,e.2+0))=id from funext fun e=>by simp]
 exact List.map_id l
theorem low_add (d:Int) (l:List En):low (add d l)=low l:=by
 by_cases h:l=[]
 ·subst h;rfl
 ·rw [low_add_eq,low_add_eq,least_add d l h,add_add]
  congr 1
  omega
theorem up_low (l:List En):add (least l) (low l)=l:=by
 rw [low_add_eq,add_add,show -(least l)+least l=0 by omega,add_zero]
theorem behind_add (d:Int) (l:List En) (c:UInt8):behind (add d l) c=add d (behind l c):=by
 unfold behind add
 rw [List.filterMap_map,List.map_filterMap]
 congr 1
 funext e
 obtain ⟨t,o⟩:=e
 cases t with
 | nil=>rfl
 | cons b t=>
  show (if b=c then some (t,o+d) else none)=Option.map _ (if b=c then some (t,o) else none)
  split <;> rfl
theorem add_nil {d:Int} {l:List En}:add d l=[]↔l=[]:=List.map_eq_nil_iff
theorem ways_add (d:Int) (l:List En):ways (add d l)=(ways l).map fun w=>(w.1,w.2.1+d,w.2.2):=by
 unfold ways
 rw [List.map_filterMap]
 congr 1
 funext n
 rw [behind_add]
 by_cases h:behind l n.toUInt8=[]
 ·rw [if_pos h,if_pos (add_nil.2 h)];rfl
 ·rw [if_neg h,if_neg (fun q=>h (add_nil.1 q)),least_add d _ h,low_add];rfl
theorem last_add (d:Int) (l:List En):last (add d l)=(last l).map (· + d):=by
 cases l with
 | nil=>rfl
 | cons e l=>
  obtain ⟨t,o⟩:=e
  cases t <;> rfl
theorem pw_ext {α:Type} {R:α→α→Prop} (asym:∀a b,R a b→¬R b a):∀ {l k:List α},l.Pairwise R→k.Pairwise R→(∀e,e∈l↔e∈k)→l=k
 | [],[],_,_,_=>rfl
 | [],f :: k,_,_,h=>by have:=(h f).2 (by simp);cases this
 | e :: l,[],_,_,h=>by have:=(h e).1 (by simp);cases this
 | e :: l,f :: k,hl,hk,h=>by
  obtain ⟨h1,h2⟩:=List.pairwise_cons.1 hl
  obtain ⟨h3,h4⟩:=List.pairwise_cons.1 hk
  have he:e=f:=by
   rcases List.mem_cons.1 ((h e).1 (by simp)) with q | q
   ·exact q
   ·rcases List.mem_cons.1 ((h f).2 (by simp)) with p | p
    ·exact p.symm
    ·exact absurd (h1 f p) (asym _ _ (h3 e q))
  subst he
  have hne:∀(m:List α),(∀x∈m,R e x)→e∉m:=fun m hm q=>asym _ _ (hm e q) (hm e q)
  have:l=k:=pw_ext asym h2 h4 fun g=>by
   constructor
   ·intro hg
    rcases List.mem_cons.1 ((h g).1 (List.mem_cons_of_mem _ hg)) with q | q
    ·subst q;exact absurd hg (hne l h1)
    ·exact q
   ·intro hg
    rcases List.mem_cons.1 ((h g).2 (List.mem_cons_of_mem _ hg)) with q | q
    ·subst q;exact absurd hg (hne k h3)
    ·exact q
  rw [this]
def hd (c:UInt8) (e:En):Bool:=match e.1 with
 | []=>false
 | b :: _=>b==c
def grp (c:UInt8) (l:List En):List En:=l.takeWhile (hd c)
def rst (c:UInt8) (l:List En):List En:=l.dropWhile (hd c)
theorem grp_rst (c:UInt8) (l:List En):grp c l++rst c l=l:=List.takeWhile_append_dropWhile
theorem hd_iff {c:UInt8} {e:En}:hd c e=true↔∃t,e.1=c :: t:=by
 unfold hd
 obtain ⟨t,o⟩:=e
 cases t with
 | nil=>simp
 | cons b t=>simp
theorem rst_more {c:UInt8}:∀ {l:List En},Rise l→(∀e∈l,∃b s,e.1=b :: s∧c.toNat≤b.toNat)→∀e∈rst c l,∃b s,e.1=b :: s∧c.toNat<b.toNat
 | [],_,_,e,he=>by cases he
 | x :: l,hr,ha,e,he=>by
  obtain ⟨h1,h2⟩:=List.pairwise_cons.1 hr
  unfold rst at he
  rw [List.dropWhile_cons] at he
  by_cases hx:hd c x=true
  ·rw [if_pos hx] at he
   exact rst_more h2 (fun y hy=>ha y (List.mem_cons_of_mem _ hy)) e he
  ·rw [if_neg hx] at he
   obtain ⟨b,s,hb,hc⟩:=ha x (by simp)
   have hbc:c.toNat<b.toNat:=by
    rcases Nat.lt_or_ge c.toNat b.toNat with q | q
    ·exact q
    ·have e1:b=c:=UInt8.toNat_inj.1 (by omega)
     exact absurd (hd_iff.2 ⟨s,by rw [hb,e1]⟩) hx
   rcases List.mem_cons.1 he with rfl | he
   ·exact ⟨b,s,hb,hbc⟩
   ·obtain ⟨b2,s2,hb2,_⟩:=ha e (List.mem_cons_of_mem _ he)
    have:=h1 e he
    rw [hb,hb2] at this
    simp only [lt,Bool.or_eq_true,Bool.and_eq_true,decide_eq_true_eq] at this
    refine ⟨b2,s2,hb2,?_⟩
    rcases this with q | ⟨q,_⟩
    ·omega
    ·rw [←q];exact hbc
theorem behind_append (l k:List En) (c:UInt8):behind (l++k) c=behind l c++behind k c:=by
 unfold behind
 rw [List.filterMap_append]
theorem filterMap_same {f g:En→Option En}:∀ {l:List En},(∀e∈l,f e=g e)→l.filterMap f=l.filterMap g
 | [],_=>rfl
 | e :: l,h=>by
  rw [List.filterMap_cons,List.filterMap_cons,h e (by simp),filterMap_same fun x hx=>h x (List.mem_cons_of_mem _ hx)]
theorem behind_none {l:List En} {c:UInt8} (h:∀e∈l,¬hd c e=true):behind l c=[]:=by
 cases hb:behind l c with
 | nil=>rfl
 | cons e k=>
  have:e∈behind l c:=by rw [hb];simp
  exact absurd (hd_iff.2 ⟨e.1,rfl⟩) (h _ (mem_behind.1 this))
theorem grp_hd {c:UInt8} {l:List En}:∀e∈grp c l,hd c e=true:=fun e he=>by
 have:=List.all_takeWhile (p:=hd c) (l:=l)
 exact List.all_eq_true.1 this e he
theorem rise_rst {c:UInt8} {l:List En} (h:Rise l):Rise (rst c l):=List.Pairwise.sublist (List.dropWhile_sublist _) h
theorem behind_grp {l:List En} {c:UInt8} (hr:Rise l) (ha:∀e∈l,∃b s,e.1=b :: s∧c.toNat≤b.toNat):behind l c=(grp c l).map fun e=>(e.1.tail,e.2):=by
 have h1:behind (rst c l) c=[]:=behind_none fun e he q=>by
  obtain ⟨b,s,hb,hc⟩:=rst_more hr ha e he
  obtain ⟨t,ht⟩:=hd_iff.1 q
  rw [hb] at ht
  injection ht with q1 _
  subst q1
  omega
 conv=>lhs;rw [←grp_rst c l]
 rw [behind_append,h1,List.append_nil]
 unfold behind
 rw [show (grp c l).map (fun e:En=>(e.1.tail,e.2))=(grp c l).filterMap (some ∘ fun e:En=>(e.1.tail,e.2)) from by rw [List.filterMap_eq_map]]
 refine filterMap_same fun e he=>?_
 obtain ⟨t,ht⟩:=hd_iff.1 (grp_hd e he)
 rw [ht]
 show (if c=c then some (t,e.2) else none)=some (e.1.tail,e.2)
 rw [if_pos rfl,ht]
 rfl
theorem rise_first {l:List En} {c:UInt8} {t:List UInt8} {o:Int} (hr:Rise ((c :: t,o) :: l)):∀e∈(c :: t,o) :: l,∃b s,e.1=b :: s∧c.toNat≤b.toNat:=fun e he=>by
 obtain ⟨h1,_⟩:=List.pairwise_cons.1 hr
 rcases List.mem_cons.1 he with rfl | he
 ·exact ⟨c,t,rfl,Nat.le_refl _⟩
 ·have:=h1 e he
  cases hs:e.1 with
  | nil=>rw [hs] at this;simp [lt] at this
  | cons b s=>
   rw [hs] at this
   simp only [lt,Bool.or_eq_true,Bool.and_eq_true,decide_eq_true_eq] at this
   refine ⟨b,s,rfl,?_⟩
   rcases this with q | ⟨q,_⟩
   ·omega
   ·rw [q];exact Nat.le_refl _
theorem ways_cons {l:List En} {c:UInt8} {t:List UInt8} {o:Int} (hr:Rise ((c :: t,o) :: l)):
  ways ((c :: t,o) :: l)=(c,least (behind ((c :: t,o) :: l) c),low (behind ((c :: t,o) :: l) c)) :: ways (rst c ((c :: t,o) :: l)):=by
 have ha:=rise_first hr
 generalize hL:(c :: t,o) :: l=L at *
 have hc:behind L c≠[]:=fun q=>by
  have:(t,o)∈behind L c:=mem_behind.2 (by rw [←hL];simp)
  rw [q] at this
  cases this
 have hm:=rst_more hr ha
 have hd2:∀d,d≠c→behind L d=behind (rst c L) d:=fun d hd=>by
  conv=>lhs;rw [←grp_rst c L]
  rw [behind_append,behind_none,List.nil_append]
  intro e he q
  obtain ⟨t1,h1⟩:=hd_iff.1 (grp_hd e he)
  obtain ⟨t2,h2⟩:=hd_iff.1 q
  rw [h1] at h2
  injection h2 with q1 _
  exact hd q1.symm
 have hc2:behind (rst c L) c=[]:=behind_none fun e he q=>by
  obtain ⟨b,s,hb,hc⟩:=hm e he
  obtain ⟨t,ht⟩:=hd_iff.1 q
  rw [hb] at ht
  injection ht with q1 _
  subst q1
  omega
 have hlo:∀w∈ways (rst c L),c.toNat<w.1.toNat:=fun w hw=>by
  obtain ⟨d,m,r⟩:=w
  obtain ⟨h1,_,_⟩:=mem_ways.1 hw
  obtain ⟨e,he⟩:=List.exists_mem_of_ne_nil _ h1
  obtain ⟨b,s,hb,hc⟩:=hm _ (mem_behind.1 he)
  injection hb with q1 _
  rw [q1];exact hc
 refine pw_ext (R:=fun a b=>a.1.toNat<b.1.toNat) (fun a b h1 h2=>by omega) (ways_rise L) (List.pairwise_cons.2 ⟨hlo,ways_rise _⟩) fun w=>?_
 obtain ⟨d,m,r⟩:=w
 rw [List.mem_cons,mem_ways,mem_ways]
 by_cases hd:d=c
 ·subst hd
  constructor
  ·rintro ⟨_,rfl,rfl⟩
   exact .inl rfl
  ·rintro (q | ⟨q,_⟩)
   ·injection q with q1 q2
    injection q2 with q2 q3
    exact ⟨hc,q2,q3⟩
   ·exact absurd hc2 q
 ·rw [hd2 d hd]
  constructor
  ·intro q;exact .inr q
  ·rintro (q | q)
   ·injection q with q1 _
    exact absurd q1 hd
   ·exact q
theorem ways_end (o:Int) (l:List En):ways (([],o) :: l)=ways l:=rfl
theorem ways_nil:ways []=[]:=by
 cases h:ways [] with
 | nil=>rfl
 | cons w k=>
  have:w∈ways []:=by rw [h];simp
  obtain ⟨c,m,r⟩:=w
  obtain ⟨h1,_⟩:=mem_ways.1 this
  exact absurd rfl h1
theorem least_cons (e:En) (l:List En) (h:l≠[]):least (e :: l)=min e.2 (least l):=by
 cases l with
 | nil=>exact absurd rfl h
 | cons f l=>rfl
theorem least_append:∀(l k:List En),l≠[]→k≠[]→least (l++k)=min (least l) (least k)
 | [],_,h,_=>absurd rfl h
 | [e],k,_,hk=>least_cons e k hk
 | e :: f :: l,k,_,hk=>by
  have ih:=least_append (f :: l) k (by simp) hk
  show least (e :: (f :: l++k))=min (min e.2 (least (f :: l))) (least k)
  rw [least_cons e _ (by simp),ih]
  omega
theorem least_map (l:List En) (f:List UInt8→List UInt8):least (l.map fun e=>(f e.1,e.2))=least l:=by
 induction l with
 | nil=>rfl
 | cons e l ih=>
  by_cases h:l=[]
  ·subst h;rfl
  ·rw [List.map_cons,least_cons _ _ (fun q=>h (List.map_eq_nil_iff.1 q)),ih,least_cons _ _ h]
def total (l:List En):Nat:=(l.map fun e=>e.1.length).sum
theorem total_append (l k:List En):total (l++k)=total l+total k:=by
 unfold total
 rw [List.map_append,List.sum_append]
theorem total_up (c:UInt8) (m:Int) (l:List En):total (up c m l)=total l+l.length:=by
 unfold total up
 induction l with
 | nil=>rfl
 | cons e l ih=>
  simp only [List.map_cons,List.sum_cons,List.length_cons] at ih ⊢
  omega
theorem total_ways {l:List En} (h:Rise l):((ways l).map fun w=>total w.2.2+1).sum≤total l:=by
 have h1:∀w∈ways l,0<w.2.2.length:=fun w hw=>List.length_pos_iff.2 (good_way h hw).ne
 have h2:total ((ways l).flatMap fun w=>up w.1 w.2.1 w.2.2)≤total l:=by
  conv=>rhs;rw [told h]
  rw [total_append]
  omega
 refine Nat.le_trans ?_ h2
 clear h2
 revert h1
 generalize ways l=k
 intro h1
 induction k with
 | nil=>exact Nat.le_refl _
 | cons w k ih=>
  rw [List.map_cons,List.sum_cons,List.flatMap_cons,total_append,total_up]
  have:=ih fun v hv=>h1 v (List.mem_cons_of_mem _ hv)
  have:=h1 w (by simp)
  omega
theorem go_length:∀(n:Nat) (l:List En) (M:List (List En)),Rise l→(go n l M).length≤M.length+1+total l
 | 0,_,_,_=>by unfold go;omega
 | n+1,l,M,h=>by
  unfold go
  split
  ·omega
  ·have key:∀(ws:List (UInt8 × Int × List En)) (M:List (List En)),(∀w∈ws,Rise w.2.2)→(ws.foldl (fun M w=>go n w.2.2 M) M).length≤M.length+(ws.map fun w=>total w.2.2+1).sum:=by
    intro ws
    induction ws with
    | nil=>intro M _;exact Nat.le_refl _
    | cons w ws ih=>
     intro M hr
     rw [List.foldl_cons,List.map_cons,List.sum_cons]
     have h1:=go_length n w.2.2 M (hr w (by simp))
     have h2:=ih (go n w.2.2 M) fun v hv=>hr v (List.mem_cons_of_mem _ hv)
     omega
   have h1:=key (ways l) M fun w hw=>(good_way h hw).rise
   have h2:=total_ways h
   rw [List.length_append,List.length_singleton]
   omega
theorem nodes_length {l:List En} (h:Rise l):(nodes l).length≤1+total l:=by
 unfold nodes
 split
 ·exact Nat.zero_le _
 ·have h1:=go_length (deep l+1) (low l) [] (low_rise h)
  have h2:total (low l)=total l:=by
   unfold total low
   rw [List.map_map]
   rfl
  rw [h2] at h1
  simpa using h1
theorem fold_met {n:Nat}:∀ {ws:List (UInt8 × Int × List En)} {M:List (List En)},(∀w∈ws,w.2.2∈M∧0<n)→ws.foldl (fun M w=>go n w.2.2 M) M=M
 | [],_,_=>rfl
 | w :: ws,M,h=>by
  rw [List.foldl_cons]
  have h1:go n w.2.2 M=M:=by
   obtain ⟨h1,h2⟩:=h w (by simp)
   obtain ⟨m,rfl⟩:∃m,n=m+1:=⟨n-1,by omega⟩
   unfold go
   rw [if_pos h1]
  rw [h1]
  exact fold_met fun v hv=>h v (List.mem_cons_of_mem _ hv)
theorem net_ways {M:List (List En)} (h:Net M) {l:List En} (hl:l∈M):∀w∈ways l,w.2.2∈M:=fun w hw=>by
 obtain ⟨i,hi⟩:=List.mem_iff_getElem?.1 hl
 exact List.mem_of_mem_take (h.ahead i l hi w hw)
def fold (n:Nat) (ws:List (UInt8 × Int × List En)) (M:List (List En)):List (List En):=ws.foldl (fun M w=>go n w.2.2 M) M
theorem fold_snoc (n:Nat) (ws:List (UInt8 × Int × List En)) (w:UInt8 × Int × List En) (M:List (List En)):fold n (ws++[w]) M=go n w.2.2 (fold n ws M):=by
 unfold fold
 rw [List.foldl_append]
 rfl
theorem fold_net {n:Nat} {l:List En} (hl:Rise l) (hd:deep l<n+1):∀ {ws:List (UInt8 × Int × List En)} {M:List (List En)},Net M→(∀w∈ws,w∈ways l)→Net (fold n ws M)∧(∃K,fold n ws M=M++K)∧(∀w∈ws,w.2.2∈fold n ws M)∧∀k∈fold n ws M,k∈M∨deep k<deep l:=by
 intro ws
 induction ws with
 | nil=>intro M hM _;exact ⟨hM,⟨[],by simp [fold]⟩,fun _ h=>(by cases h),fun k hk=>.inl hk⟩
 | cons w ws ih=>
  intro M hM hw
  have hww:=hw w (by simp)
  have hdw:=deep_way hww
  obtain ⟨a1,⟨K,a2⟩,a3⟩:=go_net n w.2.2 M hM (good_way hl hww) (by omega)
  have a4:=go_net.go_deep 0 [] n w.2.2 M
  obtain ⟨b1,⟨K2,b2⟩,b3,b4⟩:=ih a1 fun v hv=>hw v (List.mem_cons_of_mem _ hv)
  have e:fold n (w :: ws) M=fold n ws (go n w.2.2 M):=rfl
  rw [e]
  refine ⟨b1,⟨K++K2,by rw [b2,a2,List.append_assoc]⟩,fun v hv=>?_,fun k hk=>?_⟩
  ·rcases List.mem_cons.1 hv with rfl | hv
   ·rw [b2];exact List.mem_append_left _ a3
   ·exact b3 v hv
  ·rcases b4 k hk with q | q
   ·rcases a4 k q with q | q
    ·exact .inl q
    ·exact .inr (by omega)
   ·exact .inr q
theorem go_fold {n:Nat} {l:List En} {M:List (List En)} (hM:Net M) (hl:Rise l) (hd:deep l<n+1):go (n+1) l M=(if l∈fold n (ways l) M then fold n (ways l) M else fold n (ways l) M++[l])∧(l∈fold n (ways l) M→fold n (ways l) M=M):=by
 obtain ⟨_,⟨K,h2⟩,_,h4⟩:=fold_net hl hd hM (fun w (h:w∈ways l)=>h)
 by_cases h:l∈M
 ·have hf:fold n (ways l) M=M:=fold_met fun w hw=>⟨net_ways hM h w hw,by have:=deep_way hw;omega⟩
  rw [hf]
  unfold go
  rw [if_pos h]
  rw [if_pos h]
  exact ⟨rfl,fun _=>rfl⟩
 ·have hn:l∉fold n (ways l) M:=fun q=>by
   rcases h4 l q with q | q
   ·exact h q
   ·omega
  rw [if_neg hn]
  unfold go
  rw [if_neg h]
  exact ⟨rfl,fun q=>absurd q hn⟩
end F12.Fs
namespace F12.Pl
open Go.Proofs.YtmdefnbpimfbgaaGreatDoor.Pl
def rdCount (l:List UInt8):Int × Int × Int:=if (rdNum l).1<0 then (0,0,3) else rdNum l
end F12.Pl
end Go.Proofs.YtmdefnbpimfbgaaGreatDoor

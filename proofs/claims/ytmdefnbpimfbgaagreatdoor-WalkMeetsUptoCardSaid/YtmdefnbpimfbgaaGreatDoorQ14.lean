/-
  Lemmas on automata, dictionaries and the walk over them, the program's calls and the given ones.
-/
import Derived.Test.YtmdefnbpimfbgaaGreatDoorQ13
import Derived.Deep.Strs
set_option maxRecDepth 100000
set_option maxHeartbeats 16000000
namespace Go.Proofs.YtmdefnbpimfbgaaGreatDoor
namespace Wl
open Go.Lib
open Au (Arc Lo Star May has)
open Sp (Path path_snoc path_nil takes_path few_of_code)
def pairB:List Arc→Bool
 | []=>true
 | a :: r=>(r.all fun b=>decide (a.hi<b.lo∨b.hi<a.lo))&&pairB r
def detB (n:List Lo):Bool:=n.all fun s=>s.free.isEmpty&&((s.arcs.all fun a=>decide (0≤a.lo∧a.lo≤a.hi∧a.hi≤255∧0≤a.to∧a.to<n.length))&&pairB s.arcs)
def stD (n:List Lo) (k c:Nat):Option Nat:=match n[k]? with
 | none=>none
 | some s=>(s.arcs.find? fun a=>decide (a.lo≤(c:Int)∧(c:Int)≤a.hi)).map fun a=>a.to.toNat
def runD (n:List Lo) (w:List Nat):Option Nat:=w.foldl (fun q c=>q.bind fun k=>stD n k c) (some 0)
def finD (n:List Lo) (w:List Nat):Bool:=match runD n w with
 | none=>false
 | some k=>match n[k]? with
  | none=>false
  | some s=>s.fin
section
variable {n:List Lo}
theorem det_at (h:detB n=true) {k:Nat} {s:Lo} (hk:n[k]?=some s):s.free=[]∧(∀a∈s.arcs,0≤a.lo∧a.lo≤a.hi∧a.hi≤255∧0≤a.to∧a.to<n.length)∧pairB s.arcs=true:=by
 have h1:=List.all_eq_true.1 h s (List.mem_of_getElem? hk)
 rw [Bool.and_eq_true,Bool.and_eq_true] at h1
 obtain ⟨h2,h3,h4⟩:=h1
 exact ⟨List.isEmpty_iff.1 h2,fun a ha=>of_decide_eq_true (List.all_eq_true.1 h3 a ha),h4⟩
theorem det_may (h:detB n=true) (h0:0<n.length):May n:=
 ⟨h0,fun i hi a ha=>(det_at h (List.getElem?_eq_getElem hi)).2.1 a ha,fun i hi f hf=>by
  rw [(det_at h (List.getElem?_eq_getElem hi)).1] at hf
  cases hf⟩
theorem det_star (h:detB n=true) {i j:Nat}:Star n i j↔j=i:=by
 constructor
 ·intro q
  induction q with
  | refl=>rfl
  | step _ h1 h2 _=>
   rw [(det_at h h1).1] at h2
   cases h2
 ·rintro rfl
  exact .refl
theorem pair_find:∀ {l:List Arc} {a:Arc} {c:Nat},pairB l=true→a∈l→a.lo≤(c:Int)→(c:Int)≤a.hi→(l.find? fun b=>decide (b.lo≤(c:Int)∧(c:Int)≤b.hi))=some a
 | b :: r,a,c,hp,ha,h1,h2=>by
  unfold pairB at hp
  rw [Bool.and_eq_true] at hp
  rcases List.mem_cons.1 ha with rfl | ha
  ·rw [List.find?_cons_of_pos (by exact decide_eq_true ⟨h1,h2⟩)]
  ·have h3:=of_decide_eq_true (List.all_eq_true.1 hp.1 a ha)
   rw [List.find?_cons_of_neg (by simp only [decide_eq_true_eq];omega)]
   exact pair_find hp.2 ha h1 h2
theorem runD_snoc (w:List Nat) (c:Nat):runD n (w++[c])=(runD n w).bind fun k=>stD n k c:=by
 unfold runD
 rw [List.foldl_append]
 rfl
theorem path_run (h:detB n=true):∀(m:Nat) (w:List Nat),w.length=m→∀k,Path n w k↔runD n w=some k
 | 0,w,hw,k=>by
  obtain rfl:=List.length_eq_zero_iff.1 hw
  rw [path_nil,det_star h]
  show k=0↔some 0=some k
  rw [Option.some.injEq]
  exact eq_comm
 | m+1,w,hw,l=>by
  obtain ⟨v,c,rfl⟩:∃v c,w=v++[c]:=⟨w.dropLast,w.getLast (by intro e;rw [e] at hw;simp at hw),(List.dropLast_concat_getLast _).symm⟩
  have ih:=path_run h m v (by simpa using hw)
  rw [path_snoc,runD_snoc]
  constructor
  ·rintro ⟨k,s,a,h1,h2,h3,h4,h5,h6⟩
   rw [(ih k).1 h1]
   show stD n k c=some l
   unfold stD
   rw [h2]
   show Option.map _ _=_
   rw [pair_find (det_at h h2).2.2 h3 h4 h5,(det_star h).1 h6]
   rfl
  ·intro q
   cases hr:runD n v with
   | none=>rw [hr] at q;cases q
   | some k=>
    rw [hr] at q
    have q:stD n k c=some l:=q
    unfold stD at q
    cases hs:n[k]? with
    | none=>rw [hs] at q;cases q
    | some s=>
     rw [hs] at q
     obtain ⟨a,h1,h2⟩:=Option.map_eq_some_iff.1 q
     have h3:=of_decide_eq_true (List.find?_some (p:=fun b:Arc=>decide (b.lo≤(c:Int)∧(c:Int)≤b.hi)) h1)
     exact ⟨k,s,a,(ih k).2 hr,hs,List.mem_of_find?_eq_some h1,h3.1,h3.2,(det_star h).2 h2.symm⟩
theorem run_lt (h:detB n=true) (h0:0<n.length) (w:List Nat) {k:Nat} (hk:runD n w=some k):k<n.length:=by
 rcases List.eq_nil_or_concat w with rfl | ⟨v,c,rfl⟩
 ·cases hk
  exact h0
 ·rw [List.concat_eq_append,runD_snoc] at hk
  obtain ⟨j,_,h2⟩:=Option.bind_eq_some_iff.1 hk
  unfold stD at h2
  cases hs:n[j]? with
  | none=>rw [hs] at h2;cases h2
  | some s=>
   rw [hs] at h2
   obtain ⟨a,h3,rfl⟩:=Option.map_eq_some_iff.1 h2
   have:=(det_at h hs).2.1 a (List.mem_of_find?_eq_some h3)
   omega
theorem det_few2 (h:detB n=true) (h0:0<n.length) (h1:n.length≤19999):∃i,Au.Few n 20000 i:=
 few_of_code (det_may h h0) (n.length+1) (fun w=>match runD n w with | none=>0 | some k=>k+1) (fun w=>by
  cases hr:runD n w with
  | none=>dsimp only;omega
  | some k=>have:=run_lt h h0 w hr;dsimp only;omega) (fun w w' e k=>by
  rw [path_run h _ w rfl,path_run h _ w' rfl]
  have e2:runD n w=runD n w':=by
   cases h3:runD n w <;> cases h4:runD n w' <;> simp only [h3,h4] at e <;> first | rfl | omega | (congr 1;omega)
  rw [e2]) 20000 (by omega)
theorem takes_run (h:detB n=true) (h0:0<n.length) (w:List Nat):Au.takes n (Au.first n) w=finD n w:=by
 rw [Bool.eq_iff_iff,takes_path (det_may h h0)]
 unfold finD
 constructor
 ·rintro ⟨k,s,h1,h2,h3⟩
  rw [(path_run h _ w rfl k).1 h1]
  dsimp only
  rw [h2]
  exact h3
 ·intro q
  cases hr:runD n w with
  | none=>rw [hr] at q;cases q
  | some k=>
   rw [hr] at q
   dsimp only at q
   cases hs:n[k]? with
   | none=>rw [hs] at q;cases q
   | some s=>
    rw [hs] at q
    exact ⟨k,s,(path_run h _ w rfl k).2 hr,hs,q⟩
end
theorem at_det:detB (auto [63,97,116])=true∧(auto [63,97,116]).length=22∧finD (auto [63,97,116]) [99,97,116]=true∧finD (auto [63,97,116]) [100,111,103]=false∧finD (auto [63,97,116]) [104,97,116]=true:=by decide +kernel
theorem at_out:∃d,Au.tightE (auto [63,97,116]) 20000=0∧Au.tightL (auto [63,97,116]) 20000=d∧Au.takesL d [99,97,116]=true∧Au.takesL d [100,111,103]=false∧Au.takesL d [104,97,116]=true:=by
 obtain ⟨k1,k2,k3,k4,k5⟩:=at_det
 have h0:0<(auto [63,97,116]).length:=by rw [k2];decide
 have hM:=det_may k1 h0
 obtain ⟨i,hi⟩:=det_few2 k1 h0 (by rw [k2];decide)
 have hd:=Au.tight_some hi
 obtain ⟨te,tl⟩:=(Au.tight_outs (most:=20000) ((Au.may_true _).2 hM)).2 _ hd
 have hf:=Au.tight_fits hM (by decide) hd
 have ht:∀s:List UInt8,Au.takesL _ s=finD (auto [63,97,116]) (s.map UInt8.toNat):=fun s=>by
  rw [Au.takesL_of hf,Au.tight_takes hM hd,takes_run k1 h0]
 exact ⟨_,te,tl,(ht _).trans k3,(ht _).trans k4,(ht _).trans k5⟩
end Wl
namespace frame
open Go.ChangeShapes Go.WideShapes Go.ChangeAt Go.RowKit
open Go.ChangeMaps (open_string shut_string)
instance:Inhabited Au.Arc:=⟨⟨0,0,0⟩⟩
instance:Inhabited Au.St:=⟨⟨false,[]⟩⟩
instance:Inhabited Au.Lo:=⟨⟨false,[],[]⟩⟩
theorem one_le {H:Type} (d:DataW H):1≤Rows.uptoBulk d:=by
 cases d with
 | lit l=>cases l <;> simp [Rows.uptoBulk]
 | nil=>simp [Rows.uptoBulk]
 | ptr d=>simp [Rows.uptoBulk]
 | slice elems spare=>simp [Rows.uptoBulk]
 | agg parts=>simp [Rows.uptoBulk]
 | iface t d=>simp [Rows.uptoBulk]
 | map entries=>simp [Rows.uptoBulk]
 | held h=>simp [Rows.uptoBulk]
theorem all_len {H:Type} (l:List (DataW H)):l.length≤Rows.uptoBulkAll l:=by
 induction l with
 | nil=>exact Nat.zero_le _
 | cons y t ih=>
  simp only [Rows.uptoBulkAll,List.length_cons]
  have:=one_le y
  omega
theorem slice_elems {H:Type} (elems spare:List (DataW H)):Rows.uptoBulkAll elems+1≤Rows.uptoBulk (.slice elems spare):=by
 simp only [Rows.uptoBulk]
 omega
theorem string_bulk {H:Type} (s:ByteArray):Rows.uptoBulk (DataW.lit (H:=H) (.string s.data.toList))=s.size+1:=by
 simp [Rows.uptoBulk]
section
variable {H:Type} {enc:TypeId × Value→H} {W:World}
theorem addr_of {x:Addr} {i:Nat} {v:Value} (hi:i=0) (h:W.cell? (x.add i)=some v):∃b o,x=⟨b,o,none⟩∧b<W.heap.size∧∀j,x.add j=⟨b,o+j,none⟩:=by
 obtain ⟨b,off,spot⟩:=x
 have hspot:spot=none:=by
  have h1:=World.cell?_spot h
  subst hi
  simpa [Addr.add] using h1
 subst hspot
 have hadd:∀j,(⟨b,off,none⟩:Addr).add j=⟨b,off+j,none⟩:=fun j=>by
  unfold Addr.add
  split <;> simp_all
 rw [hadd] at h
 exact ⟨b,off,rfl,World.block_lt_of_cell? W _ h,hadd⟩
theorem arcs_cs {fuel:Nat} {cs:List Value} {x:DataW H × List MemPlace} (h:DataW.trod enc Tryz.prog W 0 (fun _=>true) true fuel 59 cs=some x):∃v l,cs=[v]∧ArcS (fun _=>True) W v l∧l.length≤Rows.uptoBulk x.1:=by
 rcases Go.Deep.open_slice Tryz.underlying59 h with ⟨hcs,hx⟩ | ⟨a,len,c,m,n,D,Pl,hcs,_,hl,hm,hmm,hx,hel⟩
 ·exact ⟨_,[],hcs,⟨none,0,rfl,Nat.le_refl _,by omega,fun h=>by simp at h⟩,Nat.zero_le _⟩
 ·simp only [if_true] at hmm
  subst hmm
  have hc:Tryz.prog.cellsOf 71=3:=by kernel_rfl
  have c3:Tryz.prog.cellsOf 3=1:=by kernel_rfl
  simp only [hc] at hel
  have each:∀i,i<len→∃q:Au.Arc,W.cell? (a.add (i*3))=some (.int .i64 q.lo)∧W.cell? (a.add (i*3+1))=some (.int .i64 q.hi)∧W.cell? (a.add (i*3+2))=some (.int .i64 q.to):=by
   intro i hi
   obtain ⟨cs',h1,h2⟩:=hel i (by omega)
   obtain ⟨_,hlen,hcell⟩:=World.cells?_some h1
   obtain ⟨y0,y1,y2,k,hxy,_,g0,g1,g2⟩:=Go.Deep.trod_struct3 Tryz.underlying71 h2
   match cs',hlen with
   | [v0,v1,v2],_=>
    simp [c3] at g0 g1 g2
    have e0:=hcell 0 (by omega)
    have e1:=hcell 1 (by omega)
    have e2:=hcell 2 (by omega)
    rw [Go.Deep.add_add] at e0 e1 e2
    obtain ⟨n0,f0,_,_⟩:=DataW.trod_int Tryz.underlying3 g0
    obtain ⟨n1,f1,_,_⟩:=DataW.trod_int Tryz.underlying3 g1
    obtain ⟨n2,f2,_,_⟩:=DataW.trod_int Tryz.underlying3 g2
    simp at f0 f1 f2
    subst f0 f1 f2
    exact ⟨⟨n0,n1,n2⟩,by simpa using e0,by simpa using e1,by simpa using e2⟩
  have hd:x.1=.slice ((List.range len).map D) ((List.range (m-len)).map fun j=>D (len+j)):=by rw [hx]
  have hb:=slice_elems ((List.range len).map D) ((List.range (m-len)).map fun j=>D (len+j))
  rw [←hd] at hb
  have hb2:=all_len ((List.range len).map D)
  rw [List.length_map,List.length_range] at hb2
  by_cases h0:len=0
  ·subst h0
   exact ⟨_,[],hcs,⟨some a,m,rfl,Nat.zero_le _,by unfold maxLen at hm;omega,fun h=>by simp at h⟩,Nat.zero_le _⟩
  ·obtain ⟨q,hq⟩:=Go.Deep.choose_lt (p:=fun i (q:Au.Arc)=>W.cell? (a.add (i*3))=some (.int .i64 q.lo)∧W.cell? (a.add (i*3+1))=some (.int .i64 q.hi)∧W.cell? (a.add (i*3+2))=some (.int .i64 q.to)) each
   obtain ⟨b,o,rfl,hbl,hadd⟩:=addr_of rfl (hq 0 (by omega)).1
   have hlq:((List.range len).map q).length=len:=by simp
   refine ⟨_,(List.range len).map q,hcs,⟨some ⟨b,o,none⟩,m,by rw [hlq],by rw [hlq];exact hl,by unfold maxLen at hm;omega,fun _=>⟨b,o,rfl,hbl,trivial,fun j hj=>?_⟩⟩,by rw [hlq];omega⟩
   have hj':j<len:=by rw [hlq] at hj;exact hj
   obtain ⟨t0,t1,t2⟩:=hq j hj'
   rw [hadd] at t0 t1 t2
   rw [List.getElem_map,List.getElem_range]
   exact ⟨t0,t1,t2⟩
theorem sts_of {a:Option Addr} {len cap:Nat} {d:DataW H} {p:List MemPlace} (h:DataW.Trod enc Tryz.prog W 0 (fun _=>true) true 35 (.slice a len cap) d p):∃l,StS (fun _=>True) W (.slice a len cap) l:=by
 obtain ⟨fuel,hf⟩:=h
 rcases Go.Deep.open_slice Tryz.underlying35 hf with ⟨hcs,_⟩ | ⟨x,l,c,m,n,D,Pl,hcs,_,hl,hm,hmm,hx,hel⟩
 ·simp [Value.cells] at hcs
  obtain ⟨rfl,rfl,rfl⟩:=hcs
  exact ⟨[],none,0,rfl,Nat.le_refl _,by omega,fun h=>by simp at h⟩
 ·simp [Value.cells] at hcs
  obtain ⟨rfl,rfl,rfl⟩:=hcs
  simp only [if_true] at hmm
  subst hmm
  have hc:Tryz.prog.cellsOf 61=2:=by kernel_rfl
  have c4:Tryz.prog.cellsOf 4=1:=by kernel_rfl
  have c37:Tryz.prog.cellsOf 59=1:=by kernel_rfl
  simp only [hc] at hel
  have each:∀i,i<len→∃q:Au.St,W.cell? (x.add (i*2))=some (.bool q.fin)∧∃va,W.cell? (x.add (i*2+1))=some va∧ArcS (fun _=>True) W va q.arcs:=by
   intro i hi
   obtain ⟨cs',h1,h2⟩:=hel i (by omega)
   obtain ⟨_,hlen,hcell⟩:=World.cells?_some h1
   obtain ⟨y0,y1,k,hxy,_,g0,g1⟩:=trod_struct2 Tryz.underlying61 h2
   match cs',hlen with
   | [v0,v1],_=>
    simp [c4,c37] at g0 g1
    have e0:=hcell 0 (by omega)
    have e1:=hcell 1 (by omega)
    rw [Go.Deep.add_add] at e0 e1
    obtain ⟨b,f0,_⟩:=DataW.trod_bool Tryz.underlying4 g0
    obtain ⟨v,l,f1,f2,_⟩:=arcs_cs g1
    simp at f0 f1
    subst f0 f1
    exact ⟨⟨b,l⟩,by simpa using e0,_,by simpa using e1,f2⟩
  by_cases h0:len=0
  ·subst h0
   exact ⟨[],some x,m,rfl,Nat.zero_le _,by unfold maxLen at hm;omega,fun h=>by simp at h⟩
  ·obtain ⟨q,hq⟩:=Go.Deep.choose_lt (p:=fun i (q:Au.St)=>W.cell? (x.add (i*2))=some (.bool q.fin)∧∃va,W.cell? (x.add (i*2+1))=some va∧ArcS (fun _=>True) W va q.arcs) each
   obtain ⟨b,o,rfl,hbl,hadd⟩:=addr_of rfl (hq 0 (by omega)).1
   have hlq:((List.range len).map q).length=len:=by simp
   refine ⟨(List.range len).map q,some ⟨b,o,none⟩,m,by rw [hlq],by rw [hlq];exact hl,by unfold maxLen at hm;omega,fun _=>⟨b,o,rfl,hbl,trivial,fun j hj=>?_⟩⟩
   have hj':j<len:=by rw [hlq] at hj;exact hj
   obtain ⟨t0,va,t1,t2⟩:=hq j hj'
   rw [hadd] at t0 t1
   rw [List.getElem_map,List.getElem_range]
   exact ⟨t0,va,t1,t2⟩
end
end frame
section
open Go.RowKit
theorem bothP_bad (F G:Nat→Prop) (w:World) (u v:Value) (a b:List Au.St) (most:Int) (hu:StS F w u a) (hv:StS G w v b) (hck:¬(Au.check a=0∧Au.check b=0)):
  Calls Tryz.prog 16 #[u,v,.int .i64 most] w fun e w'=>∃r,e=.returned (.tuple #[r,.int .i64 (Au.bothE a b most)])∧StS (fun g=>w.heap.size≤g) w' r (Au.bothL a b most)∧Below w.heap.size w w':=by
 have HA:=lh (checkP_any F w u a hu)
 have HB:Hid (∀W,Below w.heap.size w W→Calls Tryz.prog 29 #[v] W fun e w'=>e=.returned (.int .i64 (Au.check b))∧Below W.heap.size W w'):=fun W hb=>checkP_any G W v b (hv.below hb)
 have HE:=lh (Au.both_out_bad (most:=most) hck)
 by_cases hca:Au.check a=0
 ·have hcb:¬Au.check b=0:=fun h=>hck ⟨hca,h⟩
  rw [hca] at HA
  clear hck hca hu hv
  generalize Au.check b=cb at *
  have hcb2:(cb==(0:Int))=false:=by simpa using hcb
  go_enter Tryz.func16,Tryz.ntmps16
  go_wp2_with fail
  refine HA.out.mono ?_
  rintro e w1 ⟨rfl,hb⟩
  have HB1:=lh hb
  have H2:=lh (HB.out w1 hb)
  clear hb
  go_wp2_with fail
  refine H2.out.mono ?_
  rintro e w2 ⟨rfl,hb⟩
  have HB2:Hid (Below w.heap.size w w2):=chain HB1.out hb
  clear hb
  go_wp2_with fail
  go_ret2
  refine ⟨.slice none 0 0,?_,?_,HB2.out⟩
  ·rw [HE.out.1]
   rfl
  ·rw [HE.out.2]
   exact StS.nil _ _
 ·clear hck hu hv
  generalize Au.check a=ca at *
  have hca2:(ca==(0:Int))=false:=by simpa using hca
  go_enter Tryz.func16,Tryz.ntmps16
  go_wp2_with fail
  refine HA.out.mono ?_
  rintro e w1 ⟨rfl,hb⟩
  have HB1:=lh hb
  clear hb
  go_wp2_with fail
  go_ret2
  refine ⟨.slice none 0 0,?_,?_,HB1.out⟩
  ·rw [HE.out.1]
   rfl
  ·rw [HE.out.2]
   exact StS.nil _ _
theorem encP_inj {s t:Nat × Nat} (h1:s.1≤1099511627776∧s.2≤1099511627776) (h2:t.1≤1099511627776∧t.2≤1099511627776) (h:encP s=encP t):s=t:=by
 have wf:∀p:Nat × Nat,p.1≤1099511627776∧p.2≤1099511627776→Wf [(p.1:Int),(p.2:Int)]:=fun p hp x hx=>by
  simp at hx
  rcases hx with rfl | rfl
  ·omega
  ·omega
 have:=encI_inj (wf s h1) (wf t h2) h
 simp only [List.cons.injEq,and_true] at this
 exact Prod.ext (by omega) (by omega)
theorem encP_size (s:Nat × Nat):(encP s).size≤18:=encI_size_le _
structure PInv (B p:Nat) (u v:Value) (a b:List Au.St) (W:World):Prop where
 prow:W.heap[p]?=some (.cells #[u,v] 65 (0,0))
 sa:StS (fun g=>g<B) W u a
 sb:StS (fun g=>g<B) W v b
theorem PInv.below {B p C:Nat} {u v:Value} {a b:List Au.St} {W W':World} (h:PInv B p u v a b W) (hb:Below C W W') (hp:p<C) (hB:B≤C):PInv B p u v a b W':=
 ⟨(hb.block p hp).trans h.prow,h.sa.keep hb.size fun g hg _=>hb.block g (by omega),h.sb.keep hb.size fun g hg _=>hb.block g (by omega)⟩
theorem meets_pairs (B p:Nat) (u v:Value) (a b:List Au.St) (w:World) (most:Int) (ha:Au.Fits a) (hb:Au.Fits b) (hs:a.length*b.length≤20000) (h:PInv B p u v a b w) (hBp:B≤p):
  Calls Tryz.prog 35 #[.string (encP (0,0)),.int .i64 most,.func (.func 37) #[.pointer (some ⟨p,0,none⟩)] #[]] w (MeetP (Au.pair (Au.ofL a) (Au.ofL b)).plain (0,0) most p w):=by
 have hpl:p<w.heap.size:=(Array.getElem?_eq_some_iff.1 h.prow).1
 have hat:=ha.top
 have hbt:=hb.top
 refine meet_any (Au.pair (Au.ofL a) (Au.ofL b)).plain encP (fun s=>s.1<a.length∧s.2<b.length) (PInv B p u v a b) p w 37 (.pointer (some ⟨p,0,none⟩)) (0,0) most 20000 (fun s=>decide_eq_true rfl) (fun s c t hp hg=>Au.pair_go_in ha hb s c t hp hg) ⟨ha.pos,hb.pos⟩ (fun s t hs ht=>?_) (fun s hs=>by have:=encP_size s;omega) (by omega) (.inr fun i=>Nat.le_trans (Au.pair_few ha.row hb.row ha.pos hb.pos i) hs) hpl h (fun W W' hW hb=>hW.below hb hpl (by omega)) (fun args w=>rfl) (fun w2 s hw2 hi hs=>?_)
 ·show decide (s=t)=decide (encP s=encP t)
  by_cases e:s=t
  ·subst e;rw [decide_eq_true rfl,decide_eq_true rfl]
  ·rw [decide_eq_false e,decide_eq_false fun e2=>e (encP_inj ⟨by omega,by omega⟩ ⟨by omega,by omega⟩ e2)]
 ·refine (pairLook_any (fun g=>g<B) w2 p u v a b s hi.prow hi.sa hi.sb ha hb hs.1 hs.2).mono ?_
  rintro e w' ⟨v',rfl,hlds,hbl⟩
  have hp2:p<w2.heap.size:=Nat.lt_of_lt_of_le hpl hw2
  exact ⟨v',_,rfl,Au.pair_leads ha.row hb.row s.1 s.2,hlds,KeptF.of_below hbl,hi.below hbl hp2 (by omega)⟩
theorem bothP_any (F G:Nat→Prop) (w:World) (u v:Value) (a b:List Au.St) (most:Int) (hu:StS F w u a) (hv:StS G w v b) (hs:a.length*b.length≤20000):
  Calls Tryz.prog 16 #[u,v,.int .i64 most] w fun e w'=>∃r,e=.returned (.tuple #[r,.int .i64 (Au.bothE a b most)])∧StS (fun g=>w.heap.size≤g) w' r (Au.bothL a b most)∧Below w.heap.size w w':=by
 by_cases hck:Au.check a=0∧Au.check b=0
 rotate_left
 ·exact bothP_bad F G w u v a b most hu hv hck
 have HA:=lh (checkP_any F w u a hu)
 have HB:Hid (∀W,Below w.heap.size w W→Calls Tryz.prog 29 #[v] W fun e w'=>e=.returned (.int .i64 (Au.check b))∧Below W.heap.size W w'):=fun W hb=>checkP_any G W v b (hv.below hb)
 have HOM:=lh (fun h2=>Au.both_out_many (most:=most) hck h2)
 have HOF:=lh (fun h2=>Au.both_out_few (most:=most) hck h2)
 have HFA:=lh ((Au.check_iff a).1 hck.1)
 have HFB:=lh ((Au.check_iff b).1 hck.2)
 rw [hck.1] at HA
 rw [hck.2] at HB
 have HU:=lh hu
 have HV:=lh hv
 obtain ⟨ada,cda,rfl,hj1⟩:=hu
 obtain ⟨adb,cdb,rfl,hj2⟩:=hv
 clear hck hj1 hj2
 go_enter Tryz.func16,Tryz.ntmps16
 go_wp2_with fail
 refine HA.out.mono ?_
 rintro e w1 ⟨rfl,hb⟩
 have HB1:=lh hb
 have H2:=lh (HB.out w1 hb)
 clear hb HA HB
 go_wp2_with fail
 refine H2.out.mono ?_
 rintro e w2 ⟨rfl,hb⟩
 have HB2:Hid (Below w.heap.size w w2):=chain HB1.out hb
 clear hb HB1 H2
 have hb4:Hid (Below w.heap.size w ((w2.alloc (.cells #[.slice ada a.length cda,.slice adb b.length cdb] 65)).alloc (.cells #[.int .i64 0,.int .i64 0] 3))):=by
  have:=HB2.out.size
  exact (HB2.out.alloc this _).alloc (by simp;omega) _
 have HP:Hid (PInv w.heap.size w2.heap.size (.slice ada a.length cda) (.slice adb b.length cdb) a b ((w2.alloc (.cells #[.slice ada a.length cda,.slice adb b.length cdb] 65)).alloc (.cells #[.int .i64 0,.int .i64 0] 3))):=
  ⟨(Go.Deep.blk_alloc_lt _ _ _ (by simp)).trans (Go.Deep.blk_alloc_new _ _),(HU.out.wide (G:=fun g=>g<w.heap.size) fun g hg _=>hg).below hb4.out,(HV.out.wide (G:=fun g=>g<w.heap.size) fun g hg _=>hg).below hb4.out⟩
 have hcl:Hid (∀(j:Nat) (h:j<[(0:Int),0].length),((w2.alloc (.cells #[.slice ada a.length cda,.slice adb b.length cdb] 65)).alloc (.cells #[.int .i64 0,.int .i64 0] 3)).cell? ⟨w2.heap.size+1,0+j,none⟩=some (.int .i64 [(0:Int),0][j])):=fun j h=>by
  have h2:(w2.alloc (.cells #[.slice ada a.length cda,.slice adb b.length cdb] 65)).heap.size=w2.heap.size+1:=by simp
  have:=cell_at (w2.alloc (.cells #[.slice ada a.length cda,.slice adb b.length cdb] 65)) [.int .i64 0,.int .i64 0] 3
  rw [h2] at this
  rw [Nat.zero_add]
  match j,h with
  | 0,_=>exact this 0 _ rfl
  | 1,_=>exact this 1 _ rfl
 have HSZ:Hid (w2.heap.size+1<((w2.alloc (.cells #[.slice ada a.length cda,.slice adb b.length cdb] 65)).alloc (.cells #[.int .i64 0,.int .i64 0] 3)).heap.size):=by show _<_;simp
 have HLE:Hid (w.heap.size≤w2.heap.size):=HB2.out.size
 clear HB2 HU HV
 go_wp2_with fail
 generalize (w2.alloc (.cells #[.slice ada a.length cda,.slice adb b.length cdb] 65)).alloc (.cells #[.int .i64 0,.int .i64 0] 3)=w4 at *
 generalize w2.heap.size=p at *
 have HNU:=lh (nums_any w4 [(0:Int),0] 2 2 (p+1) 0 (by omega) rfl HSZ.out hcl.out (fun n hn=>by simp at hn;omega))
 refine HNU.out.mono ?_
 rintro e w5 ⟨rfl,hb5⟩
 have HB5:Hid (Below w.heap.size w w5):=chain hb4.out hb5
 have HP5:Hid (PInv w.heap.size p (.slice ada a.length cda) (.slice adb b.length cdb) a b w5):=HP.out.below hb5 (by have:=HSZ.out;omega) (by have:=hb4.out.size;omega)
 have HME:Hid (Calls Tryz.prog 35 #[.string ⟨(Pl.numsB [(0:Int),0]).toArray⟩,.int .i64 most,.func (.func 37) #[.pointer (some ⟨p,0,none⟩)] #[]] w5 (MeetP (Au.pair (Au.ofL a) (Au.ofL b)).plain (0,0) most p w5)):=meets_pairs w.heap.size p _ _ a b w5 most HFA.out HFB.out hs HP5.out HLE.out
 have HLS:Hid (∀i,(Au.pair (Au.ofL a) (Au.ofL b)).plain.Done (0,0) i→(((Au.pair (Au.ofL a) (Au.ofL b)).plain.met (0,0) i).length:Int)≤most→∀W v,StS (fun g=>w5.heap.size≤g) W v ((Au.pair (Au.ofL a) (Au.ofL b)).plain.out (0,0) i)→Calls Tryz.prog 38 #[v] W fun e w'=>∃r,e=.returned r∧StS (fun g=>W.heap.size≤g) w' r (Au.bothL a b most)∧Au.bothE a b most=0∧Below W.heap.size W w'):=fun i hdn hle W v hv=>by
  obtain ⟨f1,f2⟩:=Au.pairs_few HFA.out HFB.out i hdn
  obtain ⟨e1,e2⟩:=HOF.out (by rw [f1];exact hle)
  obtain ⟨r1,r2⟩:=Au.meets_rows HFA.out HFB.out
  have r3:=Au.meets_len a b
  have r4:=Au.pair_few HFA.out.row HFB.out.row HFA.out.pos HFB.out.pos i
  refine (leastP_any _ W v (Au.meets a b) ⟨r1,by omega,r2⟩ (by rw [f2];exact hv)).mono ?_
  rintro e w' ⟨r,rfl,h1,h2⟩
  exact ⟨r,rfl,by rw [e2];exact h1.sts,e1,h2⟩
 clear hb5 HNU HP hcl HSZ
 go_wp2_with fail
 refine HME.out.mono ?_
 rintro e w6 ⟨v,er,rfl,hk6,h6⟩
 have HB6:Hid (Below w.heap.size w w6):=KeptF.below HB5.out hk6 (fun k hk=>by rw [hk];exact HLE.out) HB5.out.size
 clear hk6 HME
 rcases h6 with ⟨rfl,i,hdn,hle,hst⟩ | ⟨rfl,rfl,i,hgt⟩
 ·have H6:=lh (HLS.out i hdn hle w6 v hst)
  obtain ⟨av,cv,rfl,hjunk⟩:=hst
  clear hjunk hdn hle
  go_wp2_with fail
  refine H6.out.mono ?_
  rintro e w7 ⟨r,rfl,h1,h2,h3⟩
  have H7:=lh (And.intro h1 (And.intro h2 h3))
  clear h1 h2 h3
  go_wp2_with fail
  go_ret2
  exact ⟨r,by rw [H7.out.2.1];rfl,H7.out.1.wide fun g _ hg=>Nat.le_trans HB6.out.size hg,chain HB6.out H7.out.2.2⟩
 ·obtain ⟨e1,e2⟩:=HOM.out (by have:=Au.pairs_many HFA.out HFB.out i hgt;omega)
  have E1:=lh e1
  have E2:=lh e2
  clear e1 e2
  go_wp2_with fail
  go_ret2
  exact ⟨.slice none 0 0,by rw [E1.out];rfl,by rw [E2.out];exact StS.nil _ _,HB6.out⟩
end
end Go.Proofs.YtmdefnbpimfbgaaGreatDoor

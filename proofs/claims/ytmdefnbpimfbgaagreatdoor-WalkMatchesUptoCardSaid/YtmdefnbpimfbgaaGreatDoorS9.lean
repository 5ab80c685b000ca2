/-
  Lemmas on automata, dictionaries and the walk over them, the program's calls and the given ones.
-/
import Derived.Test.YtmdefnbpimfbgaaGreatDoorS6
set_option maxRecDepth 100000
set_option maxHeartbeats 16000000
namespace Go.Proofs.YtmdefnbpimfbgaaGreatDoor
section
namespace Au
theorem full_of {l m:List Nat} (hl:l.Nodup) (hs:l ⊆ m) (hm:m.length≤l.length):∀x∈m,x∈l:=by
 intro x hx
 apply Classical.byContradiction
 intro hn
 have h1:(x :: l).Nodup:=List.nodup_cons.2 ⟨hn,hl⟩
 have h2:x :: l ⊆ m:=fun y hy=>by
  rcases List.mem_cons.1 hy with rfl | hy
  ·exact hx
  ·exact hs hy
 have:=h1.length_le_of_subset h2
 rw [List.length_cons] at this
 omega
def cl (C:Cls) (s:Nat):Nat:=(C.of s).toNat
def inside (C:Cls) (l:List Nat) (c:Nat):List Nat:=l.filter (fun s=>decide (cl C s=c∧(C.row c).length≠1))
def orderStep (C:Cls) (o:List Nat) (s:Nat):List Nat:=if (C.row (cl C s)).length=1 then o else if cl C s∈o then o else o++[cl C s]
def order (C:Cls) (l:List Nat):List Nat:=l.foldl (orderStep C) []
theorem inside_snoc (C:Cls) (l:List Nat) (s c:Nat):inside C (l++[s]) c=if cl C s=c∧(C.row c).length≠1 then inside C l c++[s] else inside C l c:=by
 unfold inside
 rw [List.filter_append]
 by_cases h:cl C s=c∧(C.row c).length≠1
 ·rw [if_pos h]
  have:[s].filter (fun s=>decide (cl C s=c∧(C.row c).length≠1))=[s]:=by
   rw [List.filter_cons,if_pos (decide_eq_true h)]
   rfl
  rw [this]
 ·rw [if_neg h]
  have:[s].filter (fun s=>decide (cl C s=c∧(C.row c).length≠1))=[]:=by
   rw [List.filter_cons,if_neg (by simpa using h)]
   rfl
  rw [this,List.append_nil]
theorem order_snoc (C:Cls) (l:List Nat) (s:Nat):order C (l++[s])=orderStep C (order C l) s:=by
 unfold order
 rw [List.foldl_append]
 rfl
theorem rev_ind {α:Type} {P:List α→Prop} (h0:P []) (h1:∀l x,P l→P (l++[x])) (l:List α):P l:=by
 have:∀n,∀l:List α,l.length=n→P l:=by
  intro n
  induction n with
  | zero=>intro l hl;rw [List.length_eq_zero_iff.1 hl];exact h0
  | succ n ih=>
   intro l hl
   have hne:l≠[]:=fun e=>by rw [e] at hl;cases hl
   rw [←List.dropLast_concat_getLast hne]
   exact h1 _ _ (ih _ (by rw [List.length_dropLast];omega))
 exact this _ l rfl
theorem order_iff (C:Cls) (l:List Nat) (c:Nat):c∈order C l↔inside C l c≠[]:=by
 induction l using rev_ind with
 | h0=>simp [order,inside]
 | h1 l s ih=>
  rw [order_snoc,inside_snoc]
  unfold orderStep
  by_cases h1:(C.row (cl C s)).length=1
  ·rw [if_pos h1,ih]
   have:¬(cl C s=c∧(C.row c).length≠1):=fun ⟨e,h⟩=>h (e ▸ h1)
   rw [if_neg this]
  ·rw [if_neg h1]
   by_cases e:cl C s=c
   ·subst e
    have e2:(if cl C s=cl C s∧(C.row (cl C s)).length≠1 then inside C l (cl C s)++[s] else inside C l (cl C s))=inside C l (cl C s)++[s]:=if_pos ⟨rfl,h1⟩
    rw [e2]
    constructor
    ·intro _ h
     simp at h
    ·intro _
     by_cases h2:cl C s∈order C l
     ·rw [if_pos h2];exact h2
     ·rw [if_neg h2];simp
   ·have e2:(if cl C s=c∧(C.row c).length≠1 then inside C l c++[s] else inside C l c)=inside C l c:=if_neg fun ⟨h,_⟩=>e h
    rw [e2,←ih]
    by_cases h2:cl C s∈order C l
    ·rw [if_pos h2]
    ·rw [if_neg h2,List.mem_append]
     constructor
     ·rintro (h | h)
      ·exact h
      ·exact absurd (List.mem_singleton.1 h).symm e
     ·exact .inl
theorem order_nodup (C:Cls) (l:List Nat):(order C l).Nodup:=by
 induction l using rev_ind with
 | h0=>simp [order]
 | h1 l s ih=>
  rw [order_snoc]
  unfold orderStep
  split
  ·exact ih
  ·split
   ·exact ih
   ·rename_i h
    unfold List.Nodup at *
    rw [List.pairwise_append]
    exact ⟨ih,by simp,fun x hx y hy e=>by simp at hy;subst hy;exact h (e ▸ hx)⟩
theorem mem_inside (C:Cls) (l:List Nat) (c s:Nat):s∈inside C l c↔s∈l∧cl C s=c∧(C.row c).length≠1:=by
 unfold inside
 rw [List.mem_filter,decide_eq_true_iff]
def splitC (C0:Cls) (l:List Nat) (C:Cls) (c:Nat):Cls:=if (inside C0 l c).length<(C.row c).length then C.split c (inside C0 l c) else C
def splitBy (C:Cls) (l:List Nat):Cls:=(order C l).foldl (splitC C l) C
structure SB (d:List St) (O:Option Nat→Prop) (R:Nat→Prop) (l:List Nat) (C:Cls) (D:List Nat) (C':Cls):Prop where
 inv:HInv d O R C'
 mem:C.mem.length≤C'.mem.length
 ref:∀s,s<d.length→C'.of s=C.of s∨((C.mem.length:Int)≤C'.of s∧∃c∈D,C.of s=(c:Int))
 row:∀c,c<C.mem.length→c∉D→C'.row c=C.row c
 same:∀s t,s<d.length→t<d.length→C'.of s=C'.of t→C.of s=C.of t
 done:∀s t,s<d.length→t<d.length→C'.of s=C'.of t→(∃c∈D,C.of s=(c:Int))→(s∈l↔t∈l)
 wq:C'.wq.length+C.mem.length=C.wq.length+C'.mem.length
theorem SB.start {d:List St} {O:Option Nat→Prop} {R:Nat→Prop} {C:Cls} (h:HInv d O R C) (l:List Nat):SB d O R l C [] C:=
 ⟨h,Nat.le_refl _,fun _ _=>.inl rfl,fun _ _ _=>rfl,fun _ _ _ _ e=>e,(fun _ _ _ _ _ ⟨_,h,_⟩=>absurd h (by simp)),rfl⟩
theorem of_cl {C:Cls} {s:Nat} (h:0≤C.of s) (c:Nat):cl C s=c↔C.of s=(c:Int):=by
 unfold cl
 omega
theorem SB.next {d:List St} {O:Option Nat→Prop} {R:Nat→Prop} {C C':Cls} {l D:List Nat} (h:SB d O R l C D C') (h0:HInv d O R C) (hl:l.Nodup) (hlt:∀s∈l,s<d.length∧0≤C.of s)
  (hX:∀s t,s<d.length→t<d.length→Eqv (ofL d) (ofL d) s t→(s∈l↔t∈l)) (c:Nat) (hc:c∈order C l) (hD:c∉D):SB d O R l C (D++[c]) (splitC C l C' c):=by
 have hne:=(order_iff C l c).1 hc
 obtain ⟨s0,hs0⟩:=List.exists_mem_of_ne_nil _ hne
 obtain ⟨hs1,hs2,hs3⟩:=(mem_inside C l c s0).1 hs0
 have hcl:c<C.mem.length:=by
  obtain ⟨h1,h2⟩:=hlt s0 hs1
  have h3:=(of_cl h2 c).1 hs2
  rcases h0.lt h1 with h4 | h4 <;> omega
 have hrow:=h.row c hcl hD
 have hof:∀s,s<d.length→(C'.of s=(c:Int)↔C.of s=(c:Int)):=by
  intro s hs
  rcases h.ref s hs with e | ⟨e,c',hc',e2⟩
  ·rw [e]
  ·constructor
   ·intro k;omega
   ·intro k
    have:c'=c:=by omega
    exact absurd (this ▸ hc') hD
 have hmem:∀s,s∈inside C l c↔s<d.length∧C'.of s=(c:Int)∧s∈l:=by
  intro s
  rw [mem_inside]
  constructor
  ·rintro ⟨h1,h2,_⟩
   obtain ⟨h3,h4⟩:=hlt s h1
   exact ⟨h3,(hof s h3).2 ((of_cl h4 c).1 h2),h1⟩
  ·rintro ⟨h1,h2,h3⟩
   exact ⟨h3,(of_cl (hlt s h3).2 c).2 ((hof s h1).1 h2),hs3⟩
 have hnod:(inside C l c).Nodup:=hl.sublist List.filter_sublist
 have hpos:0<(inside C l c).length:=List.length_pos_iff.2 hne
 unfold splitC
 by_cases hlt2:(inside C l c).length<(C'.row c).length
 ·rw [if_pos hlt2]
  obtain ⟨k1,k2,k3⟩:=h.inv.split (fun s=>s∈l) hX c (inside C l c) hnod hmem hpos hlt2
  obtain ⟨_,_,_,g4,_,g6,_,g8,g9⟩:=split_ok h.inv.ok h.inv.wait c (inside C l c) hnod (fun s hs=>⟨((hmem s).1 hs).1,((hmem s).1 hs).2.1⟩) hpos
  refine ⟨k1,by have:=h.mem;omega,fun s hs=>?_,fun c' hc' hD'=>?_,fun s t hs ht e=>?_,fun s t hs ht e hk=>?_,by have:=h.wq;omega⟩
  ·rw [g4 s]
   split
   ·rename_i hin
    exact .inr ⟨by have:=h.mem;omega,c,by simp,(hof s hs).1 ((hmem s).1 hin).2.1⟩
   ·rcases h.ref s hs with e | ⟨e,c',hc',e2⟩
    ·exact .inl e
    ·exact .inr ⟨e,c',by simp [hc'],e2⟩
  ·have hne2:c'≠c:=fun e=>hD' (by simp [e])
   rw [g6 c',if_neg (by have:=h.mem;omega),g8 c' hne2]
   exact h.row c' hc' fun e=>hD' (by simp [e])
  ·refine h.same s t hs ht ?_
   rw [g4 s,g4 t] at e
   have hlen:∀s,s<d.length→C'.of s≠(C'.mem.length:Int):=fun s hs=>by rcases h.inv.lt hs with h4 | h4 <;> omega
   by_cases i1:s∈inside C l c
   ·by_cases i2:t∈inside C l c
    ·rw [((hmem s).1 i1).2.1,((hmem t).1 i2).2.1]
    ·rw [if_pos i1,if_neg i2] at e
     exact absurd e.symm (hlen t ht)
   ·by_cases i2:t∈inside C l c
    ·rw [if_neg i1,if_pos i2] at e
     exact absurd e (hlen s hs)
    ·rwa [if_neg i1,if_neg i2] at e
  ·rw [g4 s,g4 t] at e
   have hlen:∀s,s<d.length→C'.of s≠(C'.mem.length:Int):=fun s hs=>by rcases h.inv.lt hs with h4 | h4 <;> omega
   by_cases i1:s∈inside C l c
   ·by_cases i2:t∈inside C l c
    ·exact ⟨fun _=>((hmem t).1 i2).2.2,fun _=>((hmem s).1 i1).2.2⟩
    ·rw [if_pos i1,if_neg i2] at e
     exact absurd e.symm (hlen t ht)
   ·by_cases i2:t∈inside C l c
    ·rw [if_neg i1,if_pos i2] at e
     exact absurd e (hlen s hs)
    ·rw [if_neg i1,if_neg i2] at e
     obtain ⟨c',hc',e2⟩:=hk
     rcases List.mem_append.1 hc' with hc' | hc'
     ·exact h.done s t hs ht e ⟨c',hc',e2⟩
     ·simp at hc'
      subst hc'
      have e3:=(hof s hs).2 e2
      have e4:C'.of t=(c':Int):=by rw [←e];exact e3
      exact ⟨fun k=>absurd ((hmem s).2 ⟨hs,e3,k⟩) i1,fun k=>absurd ((hmem t).2 ⟨ht,e4,k⟩) i2⟩
 ·rw [if_neg hlt2]
  refine ⟨h.inv,h.mem,fun s hs=>?_,fun c' hc' hD'=>h.row c' hc' fun e=>hD' (by simp [e]),h.same,fun s t hs ht e hk=>?_,h.wq⟩
  ·rcases h.ref s hs with e | ⟨e,c',hc',e2⟩
   ·exact .inl e
   ·exact .inr ⟨e,c',by simp [hc'],e2⟩
  ·obtain ⟨c',hc',e2⟩:=hk
   rcases List.mem_append.1 hc' with hc' | hc'
   ·exact h.done s t hs ht e ⟨c',hc',e2⟩
   ·simp at hc'
    subst hc'
    have e3:=(hof s hs).2 e2
    have e4:C'.of t=(c':Int):=by rw [←e];exact e3
    have hfull:=full_of hnod (fun s hs=>h.inv.ok.row_mem ((hmem s).1 hs).1 ((hmem s).1 hs).2.1) (Nat.le_of_not_lt hlt2)
    exact ⟨fun _=>((hmem t).1 (hfull t (h.inv.ok.row_mem ht e4))).2.2,fun _=>((hmem s).1 (hfull s (h.inv.ok.row_mem hs e3))).2.2⟩
theorem SB.upTo {d:List St} {O:Option Nat→Prop} {R:Nat→Prop} {C:Cls} {l:List Nat} (h0:HInv d O R C) (hl:l.Nodup) (hlt:∀s∈l,s<d.length∧0≤C.of s)
  (hX:∀s t,s<d.length→t<d.length→Eqv (ofL d) (ofL d) s t→(s∈l↔t∈l)) (k:Nat) (hk:k≤(order C l).length):SB d O R l C ((order C l).take k) (((order C l).take k).foldl (splitC C l) C):=by
 induction k with
 | zero=>exact SB.start h0 l
 | succ k ih=>
  have hk':k<(order C l).length:=by omega
  rw [List.take_succ_eq_append_getElem hk',List.foldl_append]
  refine (ih (by omega)).next h0 hl hlt hX _ (List.getElem_mem hk') ?_
  intro hm
  obtain ⟨j,hj,e⟩:=List.getElem_of_mem hm
  rw [List.length_take] at hj
  rw [List.getElem_take] at e
  have:=(List.nodup_iff_pairwise_ne.1 (order_nodup C l))
  have:=List.pairwise_iff_getElem.1 this j k (by omega) hk' (by omega)
  exact this e
theorem HInv.splitBy {d:List St} {O:Option Nat→Prop} {R:Nat→Prop} {C:Cls} {l:List Nat} (h:HInv d O R C) (hl:l.Nodup) (hlt:∀s∈l,s<d.length∧0≤C.of s)
  (hX:∀s t,s<d.length→t<d.length→Eqv (ofL d) (ofL d) s t→(s∈l↔t∈l)):
  HInv d O R (Au.splitBy C l)∧(Au.splitBy C l).wq.length+C.mem.length=C.wq.length+(Au.splitBy C l).mem.length ∧
  ∀s t,s<d.length→t<d.length→(Au.splitBy C l).of s=(Au.splitBy C l).of t→0≤(Au.splitBy C l).of s→(s∈l↔t∈l):=by
 have k:=SB.upTo h hl hlt hX (order C l).length (Nat.le_refl _)
 rw [List.take_of_length_le (Nat.le_refl _)] at k
 refine ⟨k.inv,k.wq,fun s t hs ht e h1=>?_⟩
 have e0:=k.same s t hs ht e
 have hp:0≤C.of s:=by
  rcases k.ref s hs with e2 | ⟨_,c,_,e2⟩
  ·change 0≤(((order C l).foldl (splitC C l) C)).of s at h1
   omega
  ·omega
 by_cases hc:cl C s∈order C l
 ·exact k.done s t hs ht e ⟨_,hc,(of_cl hp _).1 rfl⟩
 ·rw [order_iff] at hc
  have hc:inside C l (cl C s)=[]:=Classical.not_not.1 hc
  have hm:=mem_inside C l (cl C s)
  rw [hc] at hm
  have e1:cl C t=cl C s:=by unfold cl;rw [e0]
  by_cases h1:(C.row (cl C s)).length=1
  ·have r1:=h.ok.row_mem hs ((of_cl hp _).1 rfl)
   have r2:=h.ok.row_mem ht (show C.of t=(cl C s:Int) by rw [←e0];exact (of_cl hp _).1 rfl)
   obtain ⟨x,hx⟩:=List.length_eq_one_iff.1 h1
   rw [hx,List.mem_singleton] at r1 r2
   rw [r1,r2]
  ·exact ⟨fun k=>absurd ((hm s).2 ⟨k,rfl,h1⟩) (by simp),fun k=>absurd ((hm t).2 ⟨k,e1,h1⟩) (by simp)⟩
end Au
end
section
namespace Au
theorem look_low {n:Nat} {c:Int} {l:List Arc} (h:Row n c l) (z:Int) (hz:∀a∈l,z<a.lo):look l z=none:=by
 induction l with
 | nil=>rfl
 | cons a r ih=>
  have:=hz a (List.mem_cons_self ..)
  unfold look
  rw [if_neg (by omega)]
  exact ih h.tail.1 fun x hx=>hz x (List.mem_cons_of_mem _ hx)
theorem look_skip (a:Arc) (r:List Arc) (z:Int) (hz:a.hi<z):look (a :: r) z=look r z:=by
 show (if a.lo≤z∧z≤a.hi then some a.to else look r z)=_
 rw [if_neg (by omega)]
theorem look_hit (a:Arc) (r:List Arc) (z:Int) (h:a.lo≤z∧z≤a.hi):look (a :: r) z=some a.to:=by
 show (if a.lo≤z∧z≤a.hi then some a.to else look r z)=_
 rw [if_pos h]
theorem look_ahead {n:Nat} {c:Int} {a:Arc} {r:List Arc} (h:Row n c (a :: r)) (z:Int) (hz:z<a.lo):look (a :: r) z=none:=
 look_low h z fun x hx=>by
  obtain ⟨_,h2,h3⟩:=h.tail
  rcases List.mem_cons.1 hx with rfl | hx
  ·exact hz
  ·have:=h3 x hx;omega
end Au
end
section
open Go.RowKit
theorem stretches_any (F:Nat→Prop) (w:World) (v:Value) (L:List (List Au.Arc)) (hv:RowsS F w v L) (hL:∀l∈L,∀a∈l,Au.byteArc a) (hbig:L.flatten.length≤1099511627776):
  Calls Tryz.prog 108 #[v] w fun e w'=>∃u S,e=.returned u∧Au.Cut L.flatten 0 S∧StrS (fun g=>w.heap.size≤g) w' u S∧Below w.heap.size w w':=by
 obtain ⟨a,cap,rfl,hc1,hc2,hc⟩:=hv
 obtain ⟨n,hn⟩:∃n,n=L.length:=⟨_,rfl⟩
 have hn2:n≤9223372036854775807:=by omega
 have HC:=lh hc
 have HN:=lh hn
 have HLA:=lh hL
 have HR0:Hid ((w.alloc (.cells Tryz.zeroCells208 208)).rowIs w.heap.size 208 257 (fun j=>.bool (Au.marks [] j))):=by rw [zero257];exact row_repl w 257 _ _
 have HB0:Hid (Below w.heap.size w (w.alloc (.cells Tryz.zeroCells208 208))):=(Below.refl _ _).alloc (Nat.le_refl _) _
 rw [←hn]
 clear hc hc1 hn hL
 go_enter Tryz.func108,Tryz.ntmps108
 go_wp2_with fail
 generalize w.alloc (.cells Tryz.zeroCells208 208)=w1 at *
 obtain ⟨B,hB⟩:∃B,w.heap.size=B:=⟨_,rfl⟩
 have hBB:w.heap.size≤B:=by omega
 simp only [hB] at HR0 HB0 ⊢
 go_loopg [18] n (fun gg vi wx=>∃i:Nat,i≤n∧gg=n-i∧vi=.int .i64 i∧Hid (wx.rowIs B 208 257 (fun j=>.bool (Au.marks (L.take i).flatten j)))∧Hid (Below B w wx))
 case atStart=>exact ⟨0,Nat.zero_le _,rfl,rfl,HR0,HB0⟩
 case round=>
  clear HR0 HB0
  obtain ⟨i,hi,rfl,rfl,hR,hbel⟩:=hrel
  by_cases hin:i<n
  ·have j1:(i:Int)<(n:Int):=by omega
   have hil:i<L.length:=by rw [←HN.out];exact hin
   obtain ⟨g,o,rfl,hg,_,hcl⟩:=HC.out (by omega)
   obtain ⟨va,c1,hva⟩:=hcl i hil
   have e1:=(hbel.out.cell (p:=⟨g,o+i,none⟩) (by rw [←hB];exact hg)).trans c1
   have hAL:Hid (∀a∈L[i],Au.byteArc a):=HLA.out _ (List.getElem_mem hil)
   have hnx:Hid ((L.take (i+1)).flatten=(L.take i).flatten++L[i]):=by
    show _=_
    rw [List.take_succ_eq_append_getElem hil,List.flatten_append]
    simp
   generalize L[i]=l at *
   generalize (L.take i).flatten=A at *
   obtain ⟨a2,cap2,rfl,hd1,hd2,hd⟩:=hva
   obtain ⟨m,hm⟩:∃m,m=l.length:=⟨_,rfl⟩
   have hm2:m≤9223372036854775807:=by omega
   have HD:=lh hd
   have HM:=lh hm
   rw [←hm] at e1
   have hR1:Hid (wr.rowIs B 208 257 (fun j=>.bool (Au.marks (A++l.take 0) j))):=by rw [List.take_zero,List.append_nil];exact hR
   clear c1 hcl hd hd1 hm hR
   go_wp2_with fail
   go_loopg [24] m (fun gg vk wx=>∃k:Nat,k≤m∧gg=m-k∧vk=.int .i64 k∧Hid (wx.rowIs B 208 257 (fun j=>.bool (Au.marks (A++l.take k) j)))∧Hid (Below B w wx))
   case atStart=>exact ⟨0,Nat.zero_le _,rfl,rfl,hR1,hbel⟩
   case round=>
    clear hR1 hbel e1
    obtain ⟨k,hk,rfl,rfl,hR,hbel⟩:=hrel
    by_cases hkm:k<m
    ·have kl:k<l.length:=by rw [←HM.out];exact hkm
     have j2:(k:Int)<(m:Int):=by omega
     obtain ⟨g2,o2,rfl,hg2,_,hcl2⟩:=HD.out (by omega)
     obtain ⟨d1,d2,d3⟩:=hcl2 k kl
     have e1:=(hbel.out.cell (p:=⟨g2,o2+k*3,none⟩) (by rw [←hB];exact hg2)).trans d1
     have e2:=(hbel.out.cell (p:=⟨g2,o2+k*3+1,none⟩) (by rw [←hB];exact hg2)).trans d2
     have e3:=(hbel.out.cell (p:=⟨g2,o2+k*3+2,none⟩) (by rw [←hB];exact hg2)).trans d3
     have hby:=hAL.out _ (List.getElem_mem kl)
     have hst:Hid (∀x,Au.marks (A++l.take (k+1)) x=(Au.marks (A++l.take k) x||(decide (l[k].lo=(x:Int))||decide (l[k].hi+1=(x:Int))))):=fun x=>by
      rw [List.take_succ_eq_append_getElem kl,←List.append_assoc,Au.marks_snoc]
     clear d1 d2 d3 hcl2
     generalize l[k]=x at *
     obtain ⟨lo,hi',to⟩:=x
     dsimp only at e1 e2 e3 hst
     obtain ⟨y1,y2,y3⟩:=hby
     dsimp only at y1 y2 y3
     obtain ⟨p,rfl⟩:∃p:Nat,lo=(p:Int):=⟨lo.toNat,by omega⟩
     obtain ⟨q,rfl⟩:∃q:Nat,hi'=(q:Int):=⟨hi'.toNat,by omega⟩
     have hR1:=hR.out.alloc (.cells #[.int .i64 (p:Int),.int .i64 (q:Int),.int .i64 to] 71)
     have HB1:Hid (Below B w (wr.alloc (.cells #[.int .i64 (p:Int),.int .i64 (q:Int),.int .i64 to] 71))):=hbel.out.alloc (by rw [←hB];exact hbel.out.size) _
     have p1:=hR1.cell (i:=p) (by omega)
     have p2:=hR1.frozen p
     have HR3:=(hR.out.set p (.bool true)).alloc (.cells #[.int .i64 (p:Int),.int .i64 (q:Int),.int .i64 to] 71)
     have HR2:Hid (((((wr.setCell ⟨B,p,none⟩ (.bool true)).setCell ⟨B,q+1,none⟩ (.bool true)).alloc (.cells #[.int .i64 (p:Int),.int .i64 (q:Int),.int .i64 to] 71)).drew).rowIs B 208 257 (fun j=>.bool (Au.marks (A++l.take (k+1)) j))):=by
      refine World.rowIs.congr (World.rowIs.drew (((hR.out.set p (.bool true)).set (q+1) (.bool true)).alloc _)) fun j _=>?_
      rw [hst.out]
      by_cases k1:j=q+1
      ·subst k1
       simp
      ·by_cases k2:j=p
       ·subst k2
        simp
       ·rw [if_neg k1,if_neg k2]
        have f1:decide ((p:Int)=(j:Int))=false:=decide_eq_false (by omega)
        have f2:decide ((q:Int)+1=(j:Int))=false:=decide_eq_false (by omega)
        rw [f1,f2]
        simp
     have HB2:Hid (Below B w ((((wr.setCell ⟨B,p,none⟩ (.bool true)).setCell ⟨B,q+1,none⟩ (.bool true)).alloc (.cells #[.int .i64 (p:Int),.int .i64 (q:Int),.int .i64 to] 71)).drew)):=by
      refine Below.drew (Below.alloc ?_ ?_ _)
      ·exact ((hbel.out.setCell (p:=⟨B,p,none⟩) (Nat.le_refl _) _).setCell (p:=⟨B,q+1,none⟩) (Nat.le_refl _) _)
      ·simp [World.setCell]
       have:=hbel.out.size
       omega
     have q1:=HR3.cell (i:=q+1) (by omega)
     have q2:=HR3.frozen (q+1)
     have hBw:B<wr.heap.size:=hR.out.lt
     clear hR hR1 HR3 hst hbel
     go_wp2_with fail
     go_region
     all_goals
      go_wp2_with fail
      go_roundg (m-(k+1))
      case rel=>exact ⟨k+1,by omega,rfl,by go_num,HR2,HB2⟩
      case measure=>omega
    ·obtain rfl:k=m:=by omega
     have hR2:Hid (wr.rowIs B 208 257 (fun j=>.bool (Au.marks (L.take (i+1)).flatten j))):=by
      have h:=hR.out
      rw [List.take_of_length_le (by rw [←HM.out];exact Nat.le_refl _),←hnx.out] at h
      exact h
     clear hR
     go_wp2_with fail
     go_roundg (n-(i+1))
     case rel=>exact ⟨i+1,by omega,rfl,by go_num,hR2,hbel⟩
     case measure=>omega
  ·obtain rfl:i=n:=by omega
   have hR2:Hid (wr.rowIs B 208 257 (fun j=>.bool (Au.marks L.flatten j))):=by
    have h:=hR.out
    rw [List.take_of_length_le (by rw [←HN.out];exact Nat.le_refl _)] at h
    exact h
   clear hR
   have hBw:B<wr.heap.size:=hR2.out.lt
   obtain ⟨C,hC⟩:∃C,wr.heap.size=C:=⟨_,rfl⟩
   obtain ⟨b,hb⟩:∃b,b=Au.marks L.flatten:=⟨_,rfl⟩
   have HBM:=lh hb
   have HR3:Hid ((wr.alloc (.cells Tryz.zeroCells209 209)).rowIs B 208 257 (fun j=>.bool (b j))):=by rw [hb];exact hR2.out.alloc _
   have HO3:Hid ((wr.alloc (.cells Tryz.zeroCells209 209)).rowIs C 209 256 (fun j=>.int .i64 (if j<0 then (Au.cnt b j:Int) else 0))):=by rw [zero256,←hC];exact row_repl wr 256 _ _
   have HB3:Hid (Below B w (wr.alloc (.cells Tryz.zeroCells209 209))):=hbel.out.alloc (by omega) _
   have HK:Hid (LoB (fun k=>if k=B then 1 else if k=C then 2 else 0) (wr.alloc (.cells Tryz.zeroCells209 209)) B):=fun k _ hk=>by
    dsimp only at hk
    split at hk
    ·omega
    ·split at hk <;> omega
   have hBC:B<C:=by omega
   clear hR2 hbel hb
   go_wp2_with fail
   generalize wr.alloc (.cells Tryz.zeroCells209 209)=w2 at *
   have HP0:Hid (P2 b B C w2 w 0 0 [] (fun k=>if k=B then 1 else if k=C then 2 else 0) (.slice none 0 0)):=⟨rfl,Nat.le_refl _,Au.segs_zero b,(by simp),(by simp;omega),HK.out,RowC.nil _ _ _ _ _,HR3.out,HO3.out,HB3.out⟩
   obtain ⟨ii,hi,hz0,hz1,hz2⟩:=info_parts Tryz.infoStr
   clear HK HR3 HO3 HB3 hC
   go_loopg [8,37] 256 (fun gg va vi wx=>∃(c N:Nat) (Z:List (Nat × Nat)) (κ:Nat→Nat) (ad:Option Addr) (cp:Nat),c≤256∧gg=256-c∧vi=.int .i64 c∧va=.slice ad N cp∧B≤wx.heap.size∧Hid (P2 b B C wx w c N Z κ (.slice ad N cp)))
   case atStart=>exact ⟨0,0,[],_,none,0,Nat.zero_le _,rfl,rfl,rfl,Nat.le_of_lt HP0.out.beg.lt,HP0⟩
   case round=>
    clear HP0
    obtain ⟨c,N,Z,κ,ad,cp,hc,rfl,rfl,rfl,hBr,hP⟩:=hrel
    have hNc:=hP.out.le
    have hNl:=hP.out.len
    by_cases hcm:c<256
    ·have j1:(c:Int)<256:=by omega
     have e1:=hP.out.beg.cell (i:=c) (by omega)
     by_cases hbc:c=0∨b c=true
     ·obtain ⟨z1,z2⟩:=Au.segs_new hP.out.segs hbc
      have HD:Hid (∀g cp w3,RowC (paint κ wr.heap.size 3) 3 w3 165 3 (.slice (some ⟨g,0,none⟩) (N+1) cp) (N+1) (segV Z++[.int .i64 (c:Int),.int .i64 0,.slice none 0 0])→Step κ 3 wr w3 (paint κ wr.heap.size 3)→_):=fun g cp w3 k1 k2=>hP.out.done (lo:=c) hcm hBr k2 k1 (by omega) (by omega) z1 z2
      rw [hNl] at HD
      have hAll:=lh hP.out.all
      have hg:((c:Int)==0)=true∨(((c:Int)==0)=false∧b c=true):=by
       rcases hbc with e | e
       ·exact .inl (beq_iff_eq.2 (by omega))
       ·by_cases e0:c=0
        ·exact .inl (beq_iff_eq.2 (by omega))
        ·exact .inr ⟨beq_eq_false_iff_ne.2 (by omega),e⟩
      clear hP hbc z1 z2
      rcases hg with g0 | ⟨g0,g1⟩
      rotate_left
      rw [g1] at e1
      all_goals
       go_wp2_with (at_builtin;refine wpList_pushC rfl _ _ 162 165 rfl ii _ 3 40 Tryz.underlying162 hi hz0 hz1 hz2 rfl (by decide) κ 3 _ N (segV Z) rfl hAll.out [.int .i64 (c:Int),.int .i64 0,.slice none 0 0] rfl (one_of rfl) rfl (by omega) (by omega) ?_;intro g2 cp2 w3 hr3 hs3;obtain ⟨⟨k1,k2,k3,k4,k5⟩,hP3⟩:=HD.out g2 cp2 w3 hr3 hs3;have HP3:=lh hP3;have hB3:B≤w3.heap.size:=Nat.le_trans hBr hs3.size;clear hr3 hs3 hP3)
       go_roundg (256-(c+1))
       case rel=>exact ⟨c+1,N+1,_,_,_,cp2,by omega,rfl,by go_num,rfl,(by simpa [World.setCell] using hB3),HP3⟩
       case measure=>omega
     ·have hc0:c≠0:=fun e=>hbc (.inl e)
      have hbf:b c=false:=by
       rw [←Bool.not_eq_true]
       exact fun e=>hbc (.inr e)
      obtain ⟨Y,z,rfl,z1,z2⟩:=Au.segs_more hP.out.segs hc0 hbf
      have hYl:Y.length+1=N:=by rw [←hNl,List.length_append];rfl
      have hAll:=hP.out.all
      obtain ⟨a5,cp5,hv5,_,_,hf5⟩:=hAll.form
      simp only [Value.slice.injEq] at hv5
      obtain ⟨rfl,_,rfl⟩:=hv5
      obtain ⟨g2,rfl,_,_,_,_⟩:=hf5 (by omega)
      rw [segV_snoc] at hAll
      have hD:=hP.out.done (lo:=z.1) (x:=.int .i64 (z.2:Int)) (Y:=Y) (N':=N) (g:=g2) (cp:=cp) (κ':=κ) hcm hBr ⟨rfl,rfl,rfl,Nat.le_refl _,fun _ _ _=>rfl,fun _ _=>rfl⟩ hAll (by omega) (by omega) z1 (by rw [List.length_append] at z2;simp at z2;omega)
      obtain ⟨⟨k1,k2,k3,k4,k5⟩,hP3⟩:=hD
      have HP3:=lh hP3
      have g0:((c:Int)==0)=false:=beq_eq_false_iff_ne.2 (by omega)
      rw [hbf] at e1
      obtain ⟨yl,hyl⟩:∃yl,Y.length=yl:=⟨_,rfl⟩
      obtain rfl:N=yl+1:=by omega
      rw [hyl] at HP3 k3 k4 k5
      clear hP hP3 hbc z1 z2 hAll hf5 hNl hYl hbf hc0 hyl
      go_wp2_with fail
      go_roundg (256-(c+1))
      case rel=>exact ⟨c+1,yl+1,_,_,_,cp,by omega,rfl,by go_num,rfl,(by simpa [World.setCell] using hBr),HP3⟩
      case measure=>omega
    ·obtain rfl:c=256:=by omega
     obtain ⟨Y0,hY0⟩:∃Y0:List (Nat × Nat × Value),Y0=Z.map fun z=>(z.1,z.2,Value.slice none 0 0):=⟨_,rfl⟩
     have H30:Hid (P3 b C wr w B N Z Y0 (fun _=>[]) κ (.slice ad N cp)):=by
      have h:=hP.out
      refine ⟨h.kC,h.lo,?_,?_,?_,?_,h.of.congr fun j hj=>by rw [if_pos hj],h.below⟩
      ·rw [hY0,List.length_map];exact h.len
      ·rw [hY0,List.map_map]
       show List.map (fun z=>(z.1,z.2)) Z=Z
       simp
      ·rw [hY0,strV_none];exact h.all
      ·intro i hi
       have:(Y0[i]'hi).2.2=.slice none 0 0:=by simp only [hY0,List.getElem_map]
       rw [this]
       exact RowC.nil _ _ _ _ _
     have hSg:=lh hP.out.segs
     have hN256:N≤256:=hP.out.le
     have hBr2:B≤wr.heap.size:=hBr
     clear hP hY0
     go_wp2_with fail
     have H31:Hid (P3 b C wr w B N Z Y0 (Au.tos b (L.take 0).flatten) κ (.slice ad N cp)):=by rw [List.take_zero];exact H30
     clear H30
     go_loopg [67] i (fun gg vi wx=>∃(x:Nat) (Y:List (Nat × Nat × Value)) (κ:Nat→Nat),x≤i∧gg=i-x∧vi=.int .i64 x∧B≤wx.heap.size∧Hid (P3 b C wx w B N Z Y (Au.tos b (L.take x).flatten) κ (.slice ad N cp)))
     case atStart=>exact ⟨0,_,_,Nat.zero_le _,rfl,rfl,hBr2,H31⟩
     case round=>
      clear H31 hBr2
      obtain ⟨x,Y,κ,hx,rfl,rfl,hBr2,hP⟩:=hrel
      by_cases hxi:x<i
      ·have j1:(x:Int)<(i:Int):=by omega
       have hil:x<L.length:=by rw [←HN.out];exact hxi
       obtain ⟨g,o,rfl,hg,_,hcl⟩:=HC.out (by omega)
       obtain ⟨va,c1,hva⟩:=hcl x hil
       have e1:=(hP.out.below.cell (p:=⟨g,o+x,none⟩) (by rw [←hB];exact hg)).trans c1
       have hAL:Hid (∀a∈L[x],Au.byteArc a∧(a.lo.toNat=0∨b a.lo.toNat=true)∧b (a.hi.toNat+1)=true):=fun a ha=>by
        have h1:=HLA.out _ (List.getElem_mem hil) a ha
        have h2:a∈L.flatten:=List.mem_flatten.2 ⟨_,List.getElem_mem hil,ha⟩
        rw [HBM.out]
        exact ⟨h1,.inr (Au.marks_lo h2 h1.1),Au.marks_hi h2 (by have:=h1.1;have:=h1.2.1;omega)⟩
       have hnx:Hid ((L.take (x+1)).flatten=(L.take x).flatten++L[x]):=by
        show _=_
        rw [List.take_succ_eq_append_getElem hil,List.flatten_append]
        simp
       have hAn:(L.take x).flatten.length+L[x].length≤1099511627776:=by
        have h1:((L.take (x+1)).flatten).length≤L.flatten.length:=by
         have h2:L.flatten=(L.take (x+1)).flatten++(L.drop (x+1)).flatten:=by rw [←List.flatten_append,List.take_append_drop]
         rw [h2,List.length_append]
         omega
        rw [hnx.out,List.length_append] at h1
        omega
       generalize L[x]=l at *
       generalize (L.take x).flatten=A at *
       obtain ⟨a2,cap2,rfl,hd1,hd2,hd⟩:=hva
       obtain ⟨m,hm⟩:∃m,m=l.length:=⟨_,rfl⟩
       have hm2:m≤9223372036854775807:=by omega
       have HD:=lh hd
       have HM:=lh hm
       rw [←hm] at e1
       have hP1:Hid (P3 b C wr w B N Z Y (Au.tos b (A++l.take 0)) κ (.slice ad N cp)):=by rw [List.take_zero,List.append_nil];exact hP
       clear c1 hcl hd hd1 hm hP
       go_wp2_with fail
       go_loopg [73] m (fun gg vk wx=>∃(k:Nat) (Y:List (Nat × Nat × Value)) (κ:Nat→Nat),k≤m∧gg=m-k∧vk=.int .i64 k∧B≤wx.heap.size∧Hid (P3 b C wx w B N Z Y (Au.tos b (A++l.take k)) κ (.slice ad N cp)))
       case atStart=>exact ⟨0,_,_,Nat.zero_le _,rfl,rfl,hBr2,hP1⟩
       case round=>
        clear hP1 hBr2 e1
        obtain ⟨k,Y,κ,hk,rfl,rfl,hBr2,hP⟩:=hrel
        by_cases hkm:k<m
        ·have kl:k<l.length:=by rw [←HM.out];exact hkm
         have j2:(k:Int)<(m:Int):=by omega
         obtain ⟨g2,o2,rfl,hg2,_,hcl2⟩:=HD.out (by omega)
         obtain ⟨d1,d2,d3⟩:=hcl2 k kl
         have e1:=(hP.out.below.cell (p:=⟨g2,o2+k*3,none⟩) (by rw [←hB];exact hg2)).trans d1
         have e2:=(hP.out.below.cell (p:=⟨g2,o2+k*3+1,none⟩) (by rw [←hB];exact hg2)).trans d2
         have e3:=(hP.out.below.cell (p:=⟨g2,o2+k*3+2,none⟩) (by rw [←hB];exact hg2)).trans d3
         obtain ⟨⟨y1,y2,y3⟩,y4,y5⟩:=hAL.out _ (List.getElem_mem kl)
         have hst:Hid (∀x,Au.tos b (A++l.take (k+1)) x=if Au.cnt b l[k].lo.toNat≤x∧x≤Au.cnt b l[k].hi.toNat then Au.tos b (A++l.take k) x++[l[k].to] else Au.tos b (A++l.take k) x):=fun x=>by
          rw [List.take_succ_eq_append_getElem kl,←List.append_assoc,Au.tos_snoc]
         have hlen:∀x,(Au.tos b (A++l.take k) x).length≤1099511627776:=fun x=>by
          have:=Au.tos_len b (A++l.take k) x
          rw [List.length_append] at this
          have:=List.length_take_le k l
          omega
         clear d1 d2 d3 hcl2
         generalize l[k]=ar at *
         obtain ⟨lo,hi',to⟩:=ar
         dsimp only at e1 e2 e3 hst y1 y2 y3
         obtain ⟨p,rfl⟩:∃p:Nat,lo=(p:Int):=⟨lo.toNat,by omega⟩
         obtain ⟨q,rfl⟩:∃q:Nat,hi'=(q:Int):=⟨hi'.toNat,by omega⟩
         simp only [Int.toNat_natCast] at hst
         have q255:q<256:=by omega
         have p255:p<256:=by omega
         have hpq:Au.cnt b p≤Au.cnt b q:=Au.cnt_le b (by omega)
         have hqN:Au.cnt b q<N:=by
          have h1:=hSg.out.len
          rw [if_neg (by omega)] at h1
          have h2:=Au.cnt_le b (show q≤256-1 by omega)
          omega
         obtain ⟨D,hDD⟩:∃D,wr.heap.size=D:=⟨_,rfl⟩
         have sA:Step κ 9 wr (wr.alloc (.cells #[.int .i64 (p:Int),.int .i64 (q:Int),.int .i64 to] 71)) (paint κ wr.heap.size 9):=Step.of_alloc _ _
         have hP2:=hP.out.step sA (by decide) (by decide) (by decide) (by decide) hBr2
         have hkD:paint κ wr.heap.size 9 D=9:=paint_new _ _ _ _ (by omega)
         generalize paint κ wr.heap.size 9=κ1 at *
         have hDb:Hid ((wr.alloc (.cells #[.int .i64 (p:Int),.int .i64 (q:Int),.int .i64 to] 71)).heap[D]?=some (.cells #[.int .i64 (p:Int),.int .i64 (q:Int),.int .i64 to] 71 (0,0))):=by rw [←hDD];exact Go.Deep.blk_alloc_new _ _
         have hBA:B≤(wr.alloc (.cells #[.int .i64 (p:Int),.int .i64 (q:Int),.int .i64 to] 71)).heap.size:=by simp;omega
         have f1:=hP2.of.cell (i:=p) p255
         have HP2:=lh hP2
         obtain ⟨cq,hcq⟩:∃cq,Au.cnt b q=cq:=⟨_,rfl⟩
         obtain ⟨cpp,hcpp⟩:∃cpp,Au.cnt b p=cpp:=⟨_,rfl⟩
         have HCQ:=lh hcq
         rw [hcq] at hqN
         rw [hcpp] at f1
         have hst2:Hid (∀x,Au.tos b (A++l.take (k+1)) x=if cpp≤x∧x≤cq then Au.tos b (A++l.take k) x++[to] else Au.tos b (A++l.take k) x):=fun x=>by subst hcq;subst hcpp;exact hst.out x
         rw [hcq,hcpp] at hpq
         clear hP hP2 sA y4 y5 hst hcq hcpp
         obtain ⟨T0,hT0⟩:∃T0,T0=Au.tos b (A++l.take k):=⟨_,rfl⟩
         rw [←hT0] at hlen HP2 hst2
         have HP3:Hid (P3 b C (wr.alloc (.cells #[.int .i64 (p:Int),.int .i64 (q:Int),.int .i64 to] 71)) w B N Z Y (fun i=>if cpp≤i∧i<cpp then T0 i++[to] else T0 i) κ1 (.slice ad N cp)):=by
          have:(fun i=>if cpp≤i∧i<cpp then T0 i++[to] else T0 i)=T0:=funext fun i=>if_neg (by omega)
          rw [this]
          exact HP2
         clear HP2 hT0
         obtain ⟨aa,cpa,hva,_,_,hfa⟩:=HP3.out.all.form
         simp only [Value.slice.injEq] at hva
         obtain ⟨rfl,_,rfl⟩:=hva
         obtain ⟨ga,rfl,_⟩:=hfa (by omega)
         have c9:(wr.alloc (.cells #[.int .i64 (p:Int),.int .i64 (q:Int),.int .i64 to] 71)).cell? ⟨D,0,none⟩=some (.int .i64 (p:Int)):=by have h:=hDb.out;simp [World.cell?,h]
         clear hfa
         go_wp2_with fail
         generalize wr.alloc (.cells #[.int .i64 (p:Int),.int .i64 (q:Int),.int .i64 to] 71)=wa at *
         obtain ⟨i1,hi1,hy0,hy1,hy2⟩:=info_parts Tryz.infoN
         go_loopg [15] (cq+1-cpp) (fun gg vj wx=>∃(j:Nat) (Y:List (Nat × Nat × Value)) (κ:Nat→Nat),cpp≤j∧j≤cq+1∧gg=cq+1-j∧vj=.int .i64 j∧B≤wx.heap.size∧κ D=9∧Hid (wx.heap[D]?=some (.cells #[.int .i64 (p:Int),.int .i64 (q:Int),.int .i64 to] 71 (0,0)))∧Hid (P3 b C wx w B N Z Y (fun i=>if cpp≤i∧i<j then T0 i++[to] else T0 i) κ (.slice (some ⟨ga,0,none⟩) N cp)))
         case atStart=>exact ⟨cpp,_,_,Nat.le_refl _,by omega,rfl,rfl,hBA,hkD,hDb,HP3⟩
         case round=>
          clear HP3 hkD hDb f1 c9 hBA
          obtain ⟨j,Y,κ,hj1,hj2,rfl,rfl,hBA,hkD,hDb,hP⟩:=hrel
          have hof:=hP.out.of.cell (i:=q) q255
          rw [HCQ.out] at hof
          have a1:wr.cell? ⟨D,1,none⟩=some (.int .i64 (q:Int)):=by have h:=hDb.out;simp [World.cell?,h]
          have a2:wr.cell? ⟨D,2,none⟩=some (.int .i64 to):=by have h:=hDb.out;simp [World.cell?,h]
          by_cases hjq:j≤cq
          ·have j3:(j:Int)≤(cq:Int):=by omega
           have j4:(j:Int)<(N:Int):=by omega
           have hjY:j<Y.length:=by rw [hP.out.len];omega
           obtain ⟨x1,x2,_,_,x3,x4⟩:=hP.out.all.at
           obtain ⟨_,_,y3'⟩:=strV_at Y j hjY
           have r1:=x4 _ _ y3'
           have hTj:(if cpp≤j∧j<j then T0 j++[to] else T0 j)=T0 j:=if_neg (by omega)
           have hrow:=hP.out.to j hjY
           rw [hTj] at hrow
           have HROW:=lh hrow
           have hlj:=hlen j
           have hPU:Hid (∀g cp' w3,RowC (paint κ wr.heap.size (10+j)) (10+j) w3 3 1 (.slice (some ⟨g,0,none⟩) ((T0 j).length+1) cp') ((T0 j).length+1) (intsV (T0 j)++[.int .i64 to])→Step κ (10+j) wr w3 (paint κ wr.heap.size (10+j))→_):=fun g cp' w3 k1 k2=>hP.out.push (n:=(T0 j).length+1) (to:=to) hBA hjY (by simp only [hTj];exact k1) (by simp only [hTj]) k2
           simp only [hTj] at hPU
           have hDK:Hid (∀(κ':Nat→Nat) w5,Step κ (10+j) wr w5 κ'→∀ga,κ' ga=3→∀(x:Nat) u,w5.cell? ⟨D,2,none⟩=some (.int .i64 to)∧κ' D=9∧(w5.setCell ⟨ga,x,none⟩ u).heap[D]?=some (.cells #[.int .i64 (p:Int),.int .i64 (q:Int),.int .i64 to] 71 (0,0))∧B≤(w5.setCell ⟨ga,x,none⟩ u).heap.size):=fun κ' w5 hs ga hga x u=>by
            have hDl:D<wr.heap.size:=(Array.getElem?_eq_some_iff.1 hDb.out).1
            have h5:=(hs.block D hDl (by rw [hkD];omega)).trans hDb.out
            have hkD':κ' D=9:=by rw [hs.col D hDl,hkD]
            refine ⟨by simp [World.cell?,h5],hkD',?_,?_⟩
            ·rw [heap_other _ _ _ _ _ (fun e=>by rw [e,hga] at hkD';exact absurd hkD' (by decide))]
             exact h5
            ·simp only [World.setCell]
             have:=hs.size
             simp
             omega
           have hst3:Hid (∀wz Yz κz,P3 b C wz w B N Z Yz (fun i=>if i=j then T0 j++[to] else if cpp≤i∧i<j then T0 i++[to] else T0 i) κz (.slice (some ⟨ga,0,none⟩) N cp)→P3 b C wz w B N Z Yz (fun i=>if cpp≤i∧i<j+1 then T0 i++[to] else T0 i) κz (.slice (some ⟨ga,0,none⟩) N cp)):=fun wz Yz κz h=>by
            have:(fun i=>if i=j then T0 j++[to] else if cpp≤i∧i<j then T0 i++[to] else T0 i)=(fun i=>if cpp≤i∧i<j+1 then T0 i++[to] else T0 i):=funext fun i=>by
             by_cases e:i=j
             ·subst e
              rw [if_pos rfl,if_pos (by omega)]
             ·rw [if_neg e]
              by_cases h2:cpp≤i∧i<j
              ·rw [if_pos h2,if_pos (by omega)]
              ·rw [if_neg h2,if_neg (by omega)]
            rw [←this]
            exact h
           have hBE:Hid (Below wr.heap.size wr ((wr.alloc (.cells #[.int .i64 to] 3)).drew)):=((Below.refl _ _).alloc (Nat.le_refl _) _).drew
           have hnw:Hid (∀(x:Nat) (u:Value),[Value.int .i64 to][x]?=some u→((wr.alloc (.cells #[.int .i64 to] 3)).drew).cell? ((⟨wr.heap.size,0,none⟩:Addr).add x)=some u):=fun x u h=>new_cells wr [.int .i64 to] _ x u h
           clear hP hrow y3' x4 x3 hTj
           generalize Y[j].2.2=vj at *
           go_wp2_with fail
           go_region_law ((refine step_pushC rfl _ _ 82 3 (by rfl) i1 _ 1 8 Tryz.underlying82 hi1 hy0 hy1 hy2 rfl (by decide) κ (10+j) _ (T0 j).length (intsV (T0 j)) (by rfl) HROW.out hBE.out [.int .i64 to] rfl (one_of rfl) ⟨wr.heap.size,0,none⟩ hnw.out (by rfl) (by omega) (by omega) ?_;intro g5 cp5 w5 hr5 hs5;obtain ⟨⟨k1,k2⟩,hP5,k4⟩:=hPU.out g5 cp5 w5 hr5 hs5;obtain ⟨k3,hk5,hD5,hB5⟩:=hDK.out _ _ hs5 ga k4 (j*3+2) (.slice (some ⟨g5,0,none⟩) ((T0 j).length+1) cp5);have HP5:=lh (hst3.out _ _ _ hP5);have HD5:=lh hD5;clear hr5 hs5 hP5 hD5))
           all_goals
            go_wp2_with fail
            go_roundg (cq+1-(j+1))
            case rel=>exact ⟨j+1,_,_,by omega,by omega,rfl,by go_num,hB5,hk5,HD5,HP5⟩
            case measure=>omega
          ·have hjq':j=cq+1:=by omega
           subst hjq'
           have j3:¬((cq+1:Nat):Int)≤(cq:Int):=by omega
           have hP6:Hid (P3 b C wr w B N Z Y (Au.tos b (A++l.take (k+1))) κ (.slice (some ⟨ga,0,none⟩) N cp)):=by
            have:(fun i=>if cpp≤i∧i<cq+1 then T0 i++[to] else T0 i)=Au.tos b (A++l.take (k+1)):=funext fun i=>by
             rw [hst2.out]
             by_cases h:cpp≤i∧i≤cq
             ·rw [if_pos h,if_pos (by omega)]
             ·rw [if_neg h,if_neg (by omega)]
            rw [←this]
            exact hP
           clear hP
           go_wp2_with fail
           go_roundg (m-(k+1))
           case rel=>exact ⟨k+1,_,_,by omega,rfl,by go_num,hBA,hP6⟩
           case measure=>omega
        ·obtain rfl:k=m:=by omega
         have hR2:Hid (P3 b C wr w B N Z Y (Au.tos b (L.take (x+1)).flatten) κ (.slice ad N cp)):=by
          have h:=hP.out
          rw [List.take_of_length_le (by rw [←HM.out];exact Nat.le_refl _),←hnx.out] at h
          exact h
         clear hP
         go_wp2_with fail
         go_roundg (i-(x+1))
         case rel=>exact ⟨x+1,_,_,by omega,rfl,by go_num,hBr2,hR2⟩
         case measure=>omega
      ·obtain rfl:x=i:=by omega
       have hP2:=hP.out
       rw [List.take_of_length_le (by rw [←HN.out];exact Nat.le_refl _)] at hP2
       obtain ⟨aa,cpa,hva,_,_,hfa⟩:=hP2.all.form
       simp only [Value.slice.injEq] at hva
       obtain ⟨rfl,_,rfl⟩:=hva
       have hN0:0<N:=by
        have h1:=hSg.out.len
        rw [if_neg (by omega)] at h1
        omega
       obtain ⟨ga,rfl,_⟩:=hfa hN0
       have hYt:∀y∈Y,isTo y.2.2:=fun y hy=>by
        obtain ⟨j,hj,rfl⟩:=List.getElem_of_mem hy
        obtain ⟨a7,c7,h7,h8,h9,_⟩:=(hP2.to j hj).form
        exact ⟨a7,_,c7,h7,by omega⟩
       have HDF:=lh (deleteFunc_any κ wr ga N cp Y hP2.len hP2.all hYt)
       rw [HBM.out] at hP2 hSg
       have HF:Hid (∀e w',Deleted wr ga cp Y e w'→∃u S,e=.returned u∧Au.Cut L.flatten 0 S∧StrS (fun g=>w.heap.size≤g) w' u S∧Below w.heap.size w w'):=fun e w' hd=>hP2.done hSg.out HLA.out hB.symm hBr2 hd
       clear hP hP2 hfa hYt
       go_wp2_with fail
       refine HDF.out.mono ?_
       intro e w8 hd
       obtain ⟨u8,S8,rfl,h81,h82,h83⟩:=HF.out e w8 hd
       have H81:=lh h81
       have H82:=lh h82
       have H83:=lh h83
       clear hd h81 h82 h83
       go_wp2_with fail
       go_ret
       exact ⟨_,S8,rfl,H81.out,by first | exact H82.out | (rw [←hB];exact H82.out),by first | exact H83.out | (rw [←hB];exact H83.out)⟩
end
end Go.Proofs.YtmdefnbpimfbgaaGreatDoor

/-
  Lemmas on automata, dictionaries and the walk over them, the program's calls and the given ones.
-/
import Derived.Test.YtmdefnbpimfbgaaGreatDoorQ2
import Derived.Deep.DrawnRows
import Derived.Lib.BitFns
set_option maxRecDepth 100000
set_option maxHeartbeats 16000000
namespace Go.Proofs.YtmdefnbpimfbgaaGreatDoor
section
namespace Au
structure Cls where
 of:Nat→Int
 pos:Nat→Nat
 mem:List (List Nat)
 waits:List Bool
 wq:List Nat
def Cls.row (C:Cls) (c:Nat):List Nat:=C.mem.getD c []
structure OkBut (n:Nat) (C:Cls) (T:List Nat):Prop where
 mem:∀(c i s:Nat),(C.row c)[i]?=some s→s<n∧C.of s=(c:Int)∧C.pos s=i∧s∉T
 of:∀s,s<n→s∉T→C.of s = -1∨∃c:Nat,C.of s=(c:Int)∧(C.row c)[C.pos s]?=some s
def Cls.takeOut (C:Cls) (c s:Nat):Cls:=
 { C with
  pos:=fun j=>if j=(C.row c).getD ((C.row c).length-1) 0 then C.pos s else C.pos j
  mem:=C.mem.set c (((C.row c).set (C.pos s) ((C.row c).getD ((C.row c).length-1) 0)).take ((C.row c).length-1))}
def Cls.found (C:Cls) (l:List Nat):Cls:=
 { C with
  of:=fun j=>if j∈l then (C.mem.length:Int) else C.of j
  pos:=fun j=>if j∈l then l.idxOf j else C.pos j
  mem:=C.mem++[l]
  waits:=C.waits++[false]}
def Cls.wait (C:Cls) (c:Nat):Cls:={ C with waits:=C.waits.set c true,wq:=C.wq++[c]}
def Cls.out (C:Cls) (c:Nat) (l:List Nat):Cls:=l.foldl (fun C s=>C.takeOut c s) C
def Cls.split (C:Cls) (c:Nat) (l:List Nat):Cls:=
 if ((C.out c l).found l).waits.getD c false=false∧(((C.out c l).found l).row c).length<l.length then ((C.out c l).found l).wait c
 else ((C.out c l).found l).wait C.mem.length
theorem row_set (C:Cls) (c:Nat) (r:List Nat) (hc:c<C.mem.length) (c':Nat):({ C with mem:=C.mem.set c r}:Cls).row c'=if c'=c then r else C.row c':=by
 unfold Cls.row
 by_cases h:c'=c
 ·subst h
  simp [List.getD,hc]
 ·simp [List.getD,h,Ne.symm h]
theorem row_lt {C:Cls} {c i s:Nat} (h:(C.row c)[i]?=some s):c<C.mem.length:=by
 rcases Nat.lt_or_ge c C.mem.length with h1 | h1
 ·exact h1
 ·unfold Cls.row at h
  simp [List.getD,List.getElem?_eq_none h1] at h
theorem takeOut_row (C:Cls) (c s c':Nat) (hc:c<C.mem.length):(C.takeOut c s).row c'=if c'=c then ((C.row c).set (C.pos s) ((C.row c).getD ((C.row c).length-1) 0)).take ((C.row c).length-1) else C.row c':=by
 unfold Cls.takeOut
 exact row_set { C with pos:=_} c _ hc c'
theorem takeOut_ok {n:Nat} {C:Cls} {T:List Nat} (h:OkBut n C T) (c s:Nat) (hs:s<n) (hT:s∉T) (hc:C.of s=(c:Int)):
  OkBut n (C.takeOut c s) (s :: T)∧((C.takeOut c s).row c).length+1=(C.row c).length:=by
 obtain ⟨hp,hcl⟩:(C.row c)[C.pos s]?=some s∧c<C.mem.length:=by
  rcases h.of s hs hT with e | ⟨c2,e,h2⟩
  ·omega
  ·obtain rfl:c2=c:=by omega
   exact ⟨h2,row_lt h2⟩
 obtain ⟨hpl,hpe⟩:=List.getElem?_eq_some_iff.1 hp
 have hrow:=fun c'=>takeOut_row C c s c' hcl
 have hlast:(C.row c)[(C.row c).length-1]?=some ((C.row c).getD ((C.row c).length-1) 0):=by
  rw [List.getD_eq_getElem?_getD,List.getElem?_eq_getElem (by omega)]
  rfl
 have hpos:∀j,(C.takeOut c s).pos j=if j=(C.row c).getD ((C.row c).length-1) 0 then C.pos s else C.pos j:=fun _=>rfl
 have hof:∀j,(C.takeOut c s).of j=C.of j:=fun _=>rfl
 generalize hm:(C.row c).getD ((C.row c).length-1) 0=mv at *
 obtain ⟨m1,m2,m3,m4⟩:=h.mem c _ mv hlast
 have hget:∀i,(((C.row c).set (C.pos s) mv).take ((C.row c).length-1))[i]?=if i<(C.row c).length-1 then (if i=C.pos s then some mv else (C.row c)[i]?) else none:=by
  intro i
  rw [List.getElem?_take]
  split
  ·rw [List.getElem?_set]
   by_cases e:C.pos s=i
   ·rw [if_pos e,if_pos e.symm,if_pos (by omega)]
   ·rw [if_neg e,if_neg (Ne.symm e)]
  ·rfl
 refine ⟨⟨fun c' i x hx=>?_,fun x hx hxT=>?_⟩,?_⟩
 ·rw [hrow] at hx
  rw [hpos,hof]
  by_cases hcc:c'=c
  ·subst hcc
   rw [if_pos rfl,hget] at hx
   split at hx
   ·rename_i hi
    split at hx
    ·rename_i hip
     cases hx
     refine ⟨m1,m2,by rw [if_pos rfl,hip],?_⟩
     rw [List.mem_cons]
     rintro (e | e)
     ·rw [e] at m3;omega
     ·exact m4 e
    ·rename_i hip
     obtain ⟨x1,x2,x3,x4⟩:=h.mem _ _ _ hx
     refine ⟨x1,x2,?_,?_⟩
     ·rw [if_neg]
      ·exact x3
      ·rintro rfl;omega
     ·rw [List.mem_cons]
      rintro (rfl | e)
      ·omega
      ·exact x4 e
   ·cases hx
  ·rw [if_neg hcc] at hx
   obtain ⟨x1,x2,x3,x4⟩:=h.mem _ _ _ hx
   refine ⟨x1,x2,?_,?_⟩
   ·rw [if_neg]
    ·exact x3
    ·rintro rfl;omega
   ·rw [List.mem_cons]
    rintro (rfl | e)
    ·omega
    ·exact x4 e
 ·rw [List.mem_cons,not_or] at hxT
  rw [hof]
  rcases h.of x hx hxT.2 with e | ⟨c2,e,h2⟩
  ·exact .inl e
  ·right
   refine ⟨c2,e,?_⟩
   rw [hrow,hpos]
   by_cases hcc:c2=c
   ·subst hcc
    obtain ⟨_,_,_,_⟩:=h.mem _ _ _ h2
    obtain ⟨hxl,hxe⟩:=List.getElem?_eq_some_iff.1 h2
    rw [if_pos rfl,hget]
    by_cases hxm:x=mv
    ·subst hxm
     rw [if_pos rfl]
     have:C.pos s≠(C.row c2).length-1:=by
      intro e2
      rw [e2,hlast] at hp
      cases hp
      exact hxT.1 rfl
     rw [if_pos (by omega),if_pos rfl]
    ·rw [if_neg hxm]
     have k1:C.pos x≠(C.row c2).length-1:=by
      intro e2
      rw [e2,hlast] at h2
      cases h2
      exact hxm rfl
     have k2:C.pos x≠C.pos s:=by
      intro e2
      rw [e2,hp] at h2
      cases h2
      exact hxT.1 rfl
     rw [if_pos (by omega),if_neg k2]
     exact h2
   ·rw [if_neg hcc,if_neg]
    ·exact h2
    ·rintro rfl;omega
 ·rw [hrow,if_pos rfl,List.length_take,List.length_set]
  omega
theorem out_ok {n:Nat} (c:Nat) (l:List Nat):∀(C:Cls) (T:List Nat),OkBut n C T→l.Nodup→(∀s∈l,s<n∧s∉T∧C.of s=(c:Int)) →
  OkBut n (C.out c l) (l.reverse++T)∧((C.out c l).row c).length+l.length=(C.row c).length∧(C.out c l).of=C.of∧(C.out c l).waits=C.waits∧(C.out c l).wq=C.wq∧(C.out c l).mem.length=C.mem.length∧(∀c',c'≠c→(C.out c l).row c'=C.row c'):=by
 induction l with
 | nil=>intro C T h _ _;exact ⟨by simpa [Cls.out] using h,by simp [Cls.out],rfl,rfl,rfl,rfl,fun _ _=>rfl⟩
 | cons s r ih=>
  intro C T h hn hl
  rw [List.nodup_cons] at hn
  obtain ⟨h1,h2,h3⟩:=hl s (List.mem_cons_self ..)
  obtain ⟨k1,k2⟩:=takeOut_ok h c s h1 h2 h3
  have hcl:c<C.mem.length:=by
   rcases h.of s h1 h2 with e | ⟨c2,e,h4⟩
   ·omega
   ·obtain rfl:c2=c:=by omega
    exact row_lt h4
  obtain ⟨j1,j2,j3,j4,j5,j6,j7⟩:=ih (C.takeOut c s) (s :: T) k1 hn.2 fun x hx=>by
   obtain ⟨g1,g2,g3⟩:=hl x (List.mem_cons_of_mem _ hx)
   refine ⟨g1,?_,g3⟩
   rw [List.mem_cons,not_or]
   exact ⟨fun e=>hn.1 (e ▸ hx),g2⟩
  refine ⟨by simpa [Cls.out] using j1,?_,j3,j4,j5,?_,fun c' hc'=>?_⟩
  ·have:(C.out c (s :: r))=(C.takeOut c s).out c r:=rfl
   rw [this,List.length_cons]
   omega
  ·have:(C.out c (s :: r))=(C.takeOut c s).out c r:=rfl
   rw [this,j6]
   simp [Cls.takeOut]
  ·have:(C.out c (s :: r))=(C.takeOut c s).out c r:=rfl
   rw [this,j7 c' hc',takeOut_row C c s c' hcl,if_neg hc']
theorem found_row (C:Cls) (l:List Nat) (c:Nat):(C.found l).row c=if c=C.mem.length then l else C.row c:=by
 unfold Cls.found Cls.row
 by_cases h:c=C.mem.length
 ·subst h
  simp [List.getD]
 ·rw [if_neg h]
  rcases Nat.lt_or_ge c C.mem.length with h1 | h1
  ·simp [List.getD,List.getElem?_append_left h1]
  ·simp only [List.getD]
   rw [List.getElem?_eq_none (by simp;omega),List.getElem?_eq_none h1]
theorem idxOf_at {l:List Nat} (hn:l.Nodup) {i x:Nat} (h:l[i]?=some x):l.idxOf x=i:=by
 obtain ⟨hl,rfl⟩:=List.getElem?_eq_some_iff.1 h
 induction l generalizing i with
 | nil=>simp at hl
 | cons a r ih=>
  rw [List.nodup_cons] at hn
  cases i with
  | zero=>simp
  | succ i=>
   simp only [List.length_cons,Nat.add_lt_add_iff_right] at hl
   have hne:¬a=r[i]:=fun e=>hn.1 (e ▸ List.getElem_mem hl)
   simp only [List.getElem_cons_succ]
   have hb:(a==r[i])=false:=beq_eq_false_iff_ne.2 hne
   have:=ih hn.2 hl (List.getElem?_eq_getElem hl)
   rw [List.idxOf_cons,hb,this]
   rfl
theorem at_idxOf {l:List Nat} {x:Nat} (h:x∈l):l[l.idxOf x]?=some x:=by
 have:=List.idxOf_lt_length_iff.2 h
 rw [List.getElem?_eq_getElem this]
 simp
theorem found_ok {n:Nat} {C:Cls} {T:List Nat} (h:OkBut n C T) (l:List Nat) (hn:l.Nodup) (hT:∀s,s∈l↔s∈T) (hl:∀s∈l,s<n):OkBut n (C.found l) []:=by
 have hof:∀j,(C.found l).of j=if j∈l then (C.mem.length:Int) else C.of j:=fun _=>rfl
 have hpos:∀j,(C.found l).pos j=if j∈l then l.idxOf j else C.pos j:=fun _=>rfl
 refine ⟨fun c i x hx=>?_,fun x hx _=>?_⟩
 ·rw [found_row] at hx
  rw [hof,hpos]
  by_cases hc:c=C.mem.length
  ·rw [if_pos hc] at hx
   obtain ⟨hxl,hxe⟩:=List.getElem?_eq_some_iff.1 hx
   have hm:x∈l:=hxe ▸ List.getElem_mem hxl
   rw [if_pos hm,if_pos hm]
   exact ⟨hl x hm,by omega,idxOf_at hn hx,by simp⟩
  ·rw [if_neg hc] at hx
   obtain ⟨x1,x2,x3,x4⟩:=h.mem _ _ _ hx
   have hm:x∉l:=fun e=>x4 ((hT x).1 e)
   rw [if_neg hm,if_neg hm]
   exact ⟨x1,x2,x3,by simp⟩
 ·rw [hof,hpos]
  by_cases hm:x∈l
  ·right
   refine ⟨C.mem.length,by rw [if_pos hm],?_⟩
   rw [found_row,if_pos rfl,if_pos hm]
   exact at_idxOf hm
  ·rw [if_neg hm,if_neg hm]
   rcases h.of x hx (fun e=>hm ((hT x).2 e)) with e | ⟨c,e,h2⟩
   ·exact .inl e
   ·right
    refine ⟨c,e,?_⟩
    have:=row_lt h2
    rw [found_row,if_neg (by omega)]
    exact h2
structure WaitOk (C:Cls):Prop where
 len:C.waits.length=C.mem.length
 wq:∀c,c∈C.wq↔C.waits[c]?=some true
 nodup:C.wq.Nodup
theorem WaitOk.lt {C:Cls} (h:WaitOk C) {c:Nat} (hc:c∈C.wq):c<C.mem.length:=by
 have:=(h.wq c).1 hc
 rw [←h.len]
 exact (List.getElem?_eq_some_iff.1 this).1
theorem found_wait {C:Cls} (h:WaitOk C) (l:List Nat):WaitOk (C.found l):=by
 refine ⟨by simp [Cls.found,h.len],fun c=>?_,h.nodup⟩
 show c∈C.wq↔(C.waits++[false])[c]?=some true
 rw [h.wq c]
 rcases Nat.lt_or_ge c C.waits.length with h1 | h1
 ·rw [List.getElem?_append_left h1]
 ·rw [List.getElem?_eq_none h1,List.getElem?_append_right h1]
  constructor
  ·intro e;cases e
  ·intro e
   cases hk:c-C.waits.length with
   | zero=>rw [hk] at e;simp at e
   | succ k=>rw [hk] at e;simp at e
theorem wait_wait {C:Cls} (h:WaitOk C) (c:Nat) (hc:c<C.mem.length) (hw:C.waits.getD c false=false):WaitOk (C.wait c):=by
 have hl:=h.len
 have hcw:C.waits[c]?=some false:=by
  rw [List.getElem?_eq_getElem (by omega)]
  have:C.waits.getD c false=C.waits[c]'(by omega):=by simp [List.getD,List.getElem?_eq_getElem (show c<C.waits.length by omega)]
  rw [←this,hw]
 refine ⟨by simp [Cls.wait,hl],fun x=>?_,?_⟩
 ·show x∈C.wq++[c]↔(C.waits.set c true)[x]?=some true
  rw [List.mem_append,List.mem_singleton,h.wq x,List.getElem?_set]
  by_cases e:c=x
  ·subst e
   rw [if_pos rfl,if_pos (by omega)]
   simp
  ·rw [if_neg e]
   constructor
   ·rintro (k | k)
    ·exact k
    ·exact absurd k.symm e
   ·exact .inl
 ·show (C.wq++[c]).Nodup
  rw [List.nodup_append]
  refine ⟨h.nodup,by simp,fun a ha b hb=>?_⟩
  rw [List.mem_singleton] at hb
  subst hb
  rintro rfl
  have:=(h.wq a).1 ha
  rw [hcw] at this
  cases this
theorem split_ok {n:Nat} {C:Cls} (h:OkBut n C []) (hw:WaitOk C) (c:Nat) (l:List Nat) (hn:l.Nodup) (hl:∀s∈l,s<n∧C.of s=(c:Int)) (h0:0<l.length):
  OkBut n (C.split c l) []∧WaitOk (C.split c l)∧(C.split c l).mem.length=C.mem.length+1∧(∀j,(C.split c l).of j=if j∈l then (C.mem.length:Int) else C.of j) ∧
  (∃x,(C.split c l).wq=C.wq++[x]∧((x=C.mem.length)∨(x=c∧c∉C.wq))) ∧
  (∀c',(C.split c l).row c'=if c'=C.mem.length then l else (C.out c l).row c')∧((C.out c l).row c).length+l.length=(C.row c).length∧(∀c',c'≠c→(C.out c l).row c'=C.row c')∧c<C.mem.length:=by
 obtain ⟨o1,o2,o3,o4,o5,o6,o7⟩:=out_ok (n:=n) c l C [] h hn fun s hs=>⟨(hl s hs).1,by simp,(hl s hs).2⟩
 rw [List.append_nil] at o1
 have hcl:c<C.mem.length:=by
  obtain ⟨s,hs⟩:=List.exists_mem_of_length_pos h0
  rcases h.of s (hl s hs).1 (by simp) with e | ⟨c2,e,h4⟩
  ·have:=(hl s hs).2;omega
  ·have:=(hl s hs).2
   obtain rfl:c2=c:=by omega
   exact row_lt h4
 have f1:=found_ok o1 l hn (fun s=>by simp) fun s hs=>(hl s hs).1
 have w0:WaitOk (C.out c l):=⟨by rw [o4,o6];exact hw.len,fun x=>by rw [o4,o5];exact hw.wq x,by rw [o5];exact hw.nodup⟩
 have f2:=found_wait w0 l
 have fl:((C.out c l).found l).mem.length=C.mem.length+1:=by simp [Cls.found,o6]
 have fof:∀j,((C.out c l).found l).of j=if j∈l then (C.mem.length:Int) else C.of j:=fun j=>by
  show (if j∈l then ((C.out c l).mem.length:Int) else (C.out c l).of j)=_
  rw [o3,o6]
 have fwq:((C.out c l).found l).wq=C.wq:=o5
 have frow:∀c',((C.out c l).found l).row c'=if c'=C.mem.length then l else (C.out c l).row c':=fun c'=>by rw [found_row,o6]
 have fwf:((C.out c l).found l).waits.getD C.mem.length false=false:=by
  show (((C.out c l).waits++[false]).getD _ _)=false
  rw [o4,←hw.len]
  simp [List.getD]
 have fwc:((C.out c l).found l).waits.getD c false=C.waits.getD c false:=by
  show (((C.out c l).waits++[false]).getD _ _)=_
  rw [o4]
  have:c<C.waits.length:=by rw [hw.len];exact hcl
  simp [List.getD,List.getElem?_append_left this]
 have hcw:C.waits.getD c false=false→c∉C.wq:=fun e k=>by
  have k2:=(hw.wq c).1 k
  simp only [List.getD,k2,Option.getD_some] at e
  cases e
 unfold Cls.split
 generalize (C.out c l).found l=D at *
 split
 ·rename_i hlt
  exact ⟨⟨f1.mem,f1.of⟩,wait_wait f2 c (by omega) hlt.1,fl,fof,⟨c,by show D.wq++[c]=_;rw [fwq],.inr ⟨rfl,hcw (by rw [←fwc];exact hlt.1)⟩⟩,frow,o2,o7,hcl⟩
 ·exact ⟨⟨f1.mem,f1.of⟩,wait_wait f2 _ (by omega) fwf,fl,fof,⟨_,by show D.wq++[_]=_;rw [fwq],.inl rfl⟩,frow,o2,o7,hcl⟩
end Au
end
section
namespace Au
def Cls.cls (C:Cls):Option Nat→Int
 | none=>-1
 | some u=>C.of u
def Stab (d:List St) (C:Cls) (O:Option Nat→Prop) (R:Nat→Prop):Prop:=
 ∀s t a,s<d.length→t<d.length→C.of s=C.of t→0≤C.of s →
  (∀c∈C.wq,(C.cls ((ofL d).step s a)=((c:Nat):Int)↔C.cls ((ofL d).step t a)=((c:Nat):Int)))→(R a→(O ((ofL d).step s a)↔O ((ofL d).step t a))) →
  C.cls ((ofL d).step s a)=C.cls ((ofL d).step t a)
structure HInv (d:List St) (O:Option Nat→Prop) (R:Nat→Prop) (C:Cls):Prop where
 rows:∀i (h:i<d.length),Row d.length 256 d[i].arcs
 ok:OkBut d.length C []
 wait:WaitOk C
 sound:∀s t,s<d.length→t<d.length→Eqv (ofL d) (ofL d) s t→C.of s=C.of t
 dead:∀s,s<d.length→(C.of s = -1↔Dead (ofL d) (some s))
 fin:∀s t,s<d.length→t<d.length→C.of s=C.of t→0≤C.of s→(ofL d).fin s=(ofL d).fin t
 stab:Stab d C O R
 ne:∀c,c<C.mem.length→c≠1→C.row c≠[]
theorem OkBut.range {n:Nat} {C:Cls} (h:OkBut n C []) {s:Nat} (hs:s<n):C.of s = -1∨∃c:Nat,C.of s=(c:Int)∧c<C.mem.length∧s∈C.row c:=by
 rcases h.of s hs (by simp) with e | ⟨c,e,h2⟩
 ·exact .inl e
 ·exact .inr ⟨c,e,row_lt h2,(List.getElem?_eq_some_iff.1 h2).2 ▸ List.getElem_mem _⟩
theorem OkBut.mem_row {n:Nat} {C:Cls} {T:List Nat} (h:OkBut n C T) {c s:Nat} (hs:s∈C.row c):s<n∧C.of s=(c:Int):=by
 obtain ⟨i,hi,rfl⟩:=List.getElem_of_mem hs
 obtain ⟨h1,h2,_⟩:=h.mem c i _ (List.getElem?_eq_getElem hi)
 exact ⟨h1,h2⟩
theorem OkBut.row_mem {n:Nat} {C:Cls} (h:OkBut n C []) {c s:Nat} (hs:s<n) (hc:C.of s=(c:Int)):s∈C.row c:=by
 rcases h.range hs with e | ⟨c2,e,_,h2⟩
 ·omega
 ·obtain rfl:c2=c:=by omega
  exact h2
theorem OkBut.nodup {n:Nat} {C:Cls} {T:List Nat} (h:OkBut n C T) (c:Nat):(C.row c).Nodup:=by
 unfold List.Nodup
 rw [List.pairwise_iff_getElem]
 intro i j hi hj hij e2
 have h1:=(h.mem c i _ (List.getElem?_eq_getElem hi)).2.2.1
 have h2:=(h.mem c j _ (List.getElem?_eq_getElem hj)).2.2.1
 rw [e2] at h1
 omega
theorem few_classes {n:Nat} {C:Cls} (h:OkBut n C []) (hne:∀c,c<C.mem.length→c≠1→C.row c≠[]):C.mem.length≤n+1:=by
 let L:=(List.range C.mem.length).filter (fun c=>decide (c≠1))
 have hl:C.mem.length≤L.length+1:=by
  have h1:∀m,m≤((List.range m).filter (fun c=>decide (c≠1))).length+1∧(m≤1→m≤((List.range m).filter (fun c=>decide (c≠1))).length):=by
   intro m
   induction m with
   | zero=>simp
   | succ m ih=>
    rw [List.range_succ,List.filter_append,List.length_append]
    by_cases e:m=1
    ·subst e
     have:=ih.2 (Nat.le_refl _)
     constructor
     ·omega
     ·intro h;omega
    ·have e2:(List.filter (fun c=>decide (c≠1)) [m]).length=1:=by simp [e]
     rw [e2]
     constructor
     ·omega
     ·intro h
      have:=ih.2 (by omega)
      omega
  exact (h1 _).1
 have hhead:∀c∈L,∃s,s<n∧C.of s=(c:Int)∧(C.row c).getD 0 0=s:=by
  intro c hc
  obtain ⟨h1,h2⟩:=List.mem_filter.1 hc
  have h3:=hne c (List.mem_range.1 h1) (by simpa using h2)
  cases hr:C.row c with
  | nil=>exact absurd hr h3
  | cons x r=>
   have:=h.mem_row (c:=c) (s:=x) (by rw [hr];exact List.mem_cons_self ..)
   exact ⟨x,this.1,this.2,by simp [List.getD]⟩
 have hn:(L.map fun c=>(C.row c).getD 0 0).Nodup:=by
  unfold List.Nodup
  rw [List.pairwise_map]
  have hL:L.Nodup:=List.Nodup.sublist List.filter_sublist List.nodup_range
  refine List.Pairwise.imp_of_mem (fun {a b} ha hb hab e=>hab ?_) hL
  obtain ⟨s,_,h2,h3⟩:=hhead a ha
  obtain ⟨t,_,h5,h6⟩:=hhead b hb
  rw [h3,h6] at e
  subst e
  omega
 have hsub:(L.map fun c=>(C.row c).getD 0 0) ⊆ List.range n:=fun x hx=>by
  obtain ⟨c,hc,rfl⟩:=List.mem_map.1 hx
  obtain ⟨s,h1,_,h3⟩:=hhead c hc
  rw [h3]
  exact List.mem_range.2 h1
 have:=hn.length_le_of_subset hsub
 simp only [List.length_map,List.length_range] at this
 omega
theorem HInv.split {d:List St} {O:Option Nat→Prop} {R:Nat→Prop} {C:Cls} (h:HInv d O R C) (X:Nat→Prop) (hX:∀s t,s<d.length→t<d.length→Eqv (ofL d) (ofL d) s t→(X s↔X t)) (c:Nat) (l:List Nat)
  (hn:l.Nodup) (hl:∀s,s∈l↔s<d.length∧C.of s=(c:Int)∧X s) (h0:0<l.length) (hlt:l.length<(C.row c).length):HInv d O R (C.split c l)∧(C.split c l).mem.length=C.mem.length+1∧(C.split c l).wq.length=C.wq.length+1:=by
 obtain ⟨k1,k2,k3,k4,⟨x,k5,k6⟩,k7,k8,k9,k10⟩:=split_ok h.ok h.wait c l hn (fun s hs=>⟨((hl s).1 hs).1,((hl s).1 hs).2.1⟩) h0
 have hcl:∀y:Option Nat,(∀u,y=some u→u<d.length)→((C.split c l).cls y=C.cls y∧(∀u,y=some u→u∉l))∨((C.split c l).cls y=(C.mem.length:Int)∧C.cls y=(c:Int)):=by
  intro y _
  cases y with
  | none=>exact .inl ⟨rfl,fun u e=>by cases e⟩
  | some u=>
   have:=k4 u
   by_cases hu:u∈l
   ·rw [if_pos hu] at this
    exact .inr ⟨this,((hl u).1 hu).2.1⟩
   ·rw [if_neg hu] at this
    exact .inl ⟨this,fun v e=>by cases e;exact hu⟩
 have hr:∀y:Option Nat,(∀u,y=some u→u<d.length)→C.cls y<(C.mem.length:Int):=by
  intro y hy
  cases y with
  | none=>show (-1:Int)<_;omega
  | some u=>
   show C.of u<_
   rcases h.ok.range (hy u rfl) with e | ⟨c2,e,h2,_⟩ <;> omega
 have hmono:∀s t,s<d.length→t<d.length→(C.split c l).of s=(C.split c l).of t→C.of s=C.of t:=by
  intro s t hs ht e
  have h1:=hr (some s) (fun u e=>by cases e;exact hs)
  have h2:=hr (some t) (fun u e=>by cases e;exact ht)
  change C.of s<_ at h1
  change C.of t<_ at h2
  rw [k4,k4] at e
  by_cases e1:s∈l <;> by_cases e2:t∈l
  ·rw [((hl s).1 e1).2.1,((hl t).1 e2).2.1]
  ·rw [if_pos e1,if_neg e2] at e;omega
  ·rw [if_neg e1,if_pos e2] at e;omega
  ·rw [if_neg e1,if_neg e2] at e;exact e
 have hpos:∀s,s<d.length→0≤(C.split c l).of s→0≤C.of s:=by
  intro s hs e
  rw [k4] at e
  by_cases e1:s∈l
  ·have:=((hl s).1 e1).2.1;omega
  ·rw [if_neg e1] at e;exact e
 refine ⟨⟨h.rows,k1,k2,?_,?_,?_,?_,?_⟩,k3,by rw [k5];simp⟩
 ·intro s t hs ht he
  have h1:=h.sound s t hs ht he
  have h2:=hX s t hs ht he
  rw [k4,k4]
  have:s∈l↔t∈l:=by rw [hl,hl,h1,h2];exact ⟨fun e=>⟨ht,e.2⟩,fun e=>⟨hs,e.2⟩⟩
  by_cases e:s∈l
  ·rw [if_pos e,if_pos (this.1 e)]
  ·rw [if_neg e,if_neg (fun e2=>e (this.2 e2)),h1]
 ·intro s hs
  rw [←h.dead s hs,k4]
  by_cases e:s∈l
  ·rw [if_pos e,((hl s).1 e).2.1]
   constructor <;> intro <;> omega
  ·rw [if_neg e]
 ·intro s t hs ht e e2
  exact h.fin s t hs ht (hmono s t hs ht e) (hpos s hs e2)
 ·intro s t a hs ht e e2 hw hR
  have hms:=hmono s t hs ht e
  have hps:=hpos s hs e2
  have hsr:∀u,(ofL d).step s a=some u→u<d.length:=fun u hu=>ofL_in h.rows hu
  have htr:∀u,(ofL d).step t a=some u→u<d.length:=fun u hu=>ofL_in h.rows hu
  have hold:=h.stab s t a hs ht hms hps (fun c0 hc0=>?_) hR
  ·rcases hcl _ hsr with ⟨p1,p1'⟩ | ⟨p1,p2⟩ <;> rcases hcl _ htr with ⟨q1,q1'⟩ | ⟨q1,q2⟩
   ·rw [p1,q1,hold]
   ·
    exfalso
    rw [q2] at hold
    have hx:=hw x (by rw [k5];simp)
    rw [p1,q1,hold] at hx
    rcases k6 with rfl | ⟨rfl,_⟩
    ·have:=hx.2 rfl;omega
    ·have:=hx.1 rfl;omega
   ·exfalso
    rw [p2] at hold
    have hx:=hw x (by rw [k5];simp)
    rw [p1,q1,←hold] at hx
    rcases k6 with rfl | ⟨rfl,_⟩
    ·have:=hx.1 rfl;omega
    ·have:=hx.2 rfl;omega
   ·rw [p1,q1]
  ·
   have hlt0:=h.wait.lt hc0
   have h1:=hw c0 (by rw [k5];simp [hc0])
   have r1:=hr _ hsr
   have r2:=hr _ htr
   by_cases hcc:c0=c
   ·subst hcc
    have hx:=hw x (by rw [k5];simp)
    rcases k6 with rfl | ⟨rfl,k6⟩
    ·rcases hcl _ hsr with ⟨p1,p1'⟩ | ⟨p1,p2⟩ <;> rcases hcl _ htr with ⟨q1,q1'⟩ | ⟨q1,q2⟩
     ·rw [p1,q1] at h1;exact h1
     ·rw [p1,q1] at hx
      have:=hx.2 rfl;omega
     ·rw [p1,q1] at hx
      have:=hx.1 rfl;omega
     ·rw [p2,q2]
    ·exact absurd hc0 k6
   ·rcases hcl _ hsr with ⟨p1,p1'⟩ | ⟨p1,p2⟩ <;> rcases hcl _ htr with ⟨q1,q1'⟩ | ⟨q1,q2⟩
    ·rw [p1,q1] at h1;exact h1
    ·rw [p1,q1] at h1
     rw [q2,h1]
     constructor <;> intro <;> omega
    ·rw [p1,q1] at h1
     rw [p2,←h1]
     constructor <;> intro <;> omega
    ·rw [p2,q2]
 ·intro c' hc' h1
  rw [k3] at hc'
  rw [k7]
  by_cases e:c'=C.mem.length
  ·rw [if_pos e]
   intro e2
   rw [e2] at h0
   simp at h0
  ·rw [if_neg e]
   by_cases e2:c'=c
   ·subst e2
    intro e3
    rw [e3] at k8
    simp at k8
    omega
   ·rw [k9 c' e2]
    exact h.ne c' (by omega) h1
end Au
end
section
namespace Au
def Cls.pop (C:Cls) (q:List Nat) (c:Nat):Cls:={ C with waits:=C.waits.set c false,wq:=q}
theorem HInv.pop {d:List St} {O:Option Nat→Prop} {C:Cls} (h:HInv d O (fun _=>False) C) (q:List Nat) (c:Nat) (hq:C.wq=q++[c]) (R:Nat→Prop) (hR:∀a s,s<d.length→¬R a→C.cls ((ofL d).step s a)≠(c:Int)):
  HInv d (fun x=>C.cls x=(c:Int)) R (C.pop q c):=by
 have hnd:=h.wait.nodup
 rw [hq,List.nodup_append] at hnd
 have hcq:c∉q:=fun e=>hnd.2.2 c e c (by simp) rfl
 refine ⟨h.rows,⟨h.ok.mem,h.ok.of⟩,⟨by simp [Cls.pop,h.wait.len],fun x=>?_,hnd.1⟩,h.sound,h.dead,h.fin,?_,h.ne⟩
 ·show x∈q↔(C.waits.set c false)[x]?=some true
  have h1:=h.wait.wq x
  rw [hq,List.mem_append,List.mem_singleton] at h1
  rw [List.getElem?_set]
  by_cases e:c=x
  ·subst e
   rw [if_pos rfl]
   constructor
   ·intro k;exact absurd k hcq
   ·intro k
    split at k <;> cases k
  ·rw [if_neg e,←h1]
   constructor
   ·exact .inl
   ·rintro (k | k)
    ·exact k
    ·exact absurd k.symm e
 ·intro s t a hs ht e e2 hw hO
  refine h.stab s t a hs ht e e2 (fun c0 hc0=>?_) (fun k=>k.elim)
  rw [hq,List.mem_append,List.mem_singleton] at hc0
  rcases hc0 with hc0 | rfl
  ·exact hw c0 hc0
  ·by_cases hr:R a
   ·exact hO hr
   ·exact ⟨fun k=>absurd k (hR a s hs hr),fun k=>absurd k (hR a t ht hr)⟩
theorem HInv.next {d:List St} {O O':Option Nat→Prop} {R R':Nat→Prop} {C:Cls} (h:HInv d O R C) (hO:∀x,O x↔O' x)
  (hR:∀a,R a→¬R' a→∀s t,s<d.length→t<d.length→C.of s=C.of t→0≤C.of s→(O ((ofL d).step s a)↔O ((ofL d).step t a))):HInv d O' R' C:=by
 refine ⟨h.rows,h.ok,h.wait,h.sound,h.dead,h.fin,?_,h.ne⟩
 intro s t a hs ht e e2 hw h1
 refine h.stab s t a hs ht e e2 hw fun k=>?_
 by_cases hr:R' a
 ·have:=h1 hr
  rw [←hO,←hO] at this
  exact this
 ·exact hR a k hr s t hs ht e e2
theorem HInv.lead_eqv {d:List St} {O:Option Nat→Prop} {R:Nat→Prop} {C:Cls} (h:HInv d O R C) (c:Nat) (a s t:Nat) (he:Eqv (ofL d) (ofL d) s t):
  (C.cls ((ofL d).step s a)=(c:Int)↔C.cls ((ofL d).step t a)=(c:Int)):=by
 have main:∀s t,Eqv (ofL d) (ofL d) s t→C.cls ((ofL d).step s a)=(c:Int)→C.cls ((ofL d).step t a)=(c:Int):=by
  intro s t he k
  cases hs:(ofL d).step s a with
  | none=>rw [hs] at k;exact absurd k (by show ¬(-1:Int)=_;omega)
  | some u=>
   rw [hs] at k
   have hu:=ofL_in h.rows hs
   have hnd:¬Dead (ofL d) (some u):=fun e=>by
    have:=(h.dead u hu).2 e
    change C.of u=_ at k
    omega
   cases ht:(ofL d).step t a with
   | none=>
    exact absurd (fun w=>by
     have:=he.next a w
     rw [hs,ht,acc_none] at this
     exact this) hnd
   | some v=>
    have:Eqv (ofL d) (ofL d) u v:=fun w=>by
     have:=he.next a w
     rwa [hs,ht] at this
    have e:=h.sound u v hu (ofL_in h.rows ht) this
    show C.of v=_
    rw [←e]
    exact k
 exact ⟨main s t he,main t s he.symm⟩
theorem HInv.lt {d:List St} {O:Option Nat→Prop} {R:Nat→Prop} {C:Cls} (h:HInv d O R C) {s:Nat} (hs:s<d.length):C.of s = -1∨(0≤C.of s∧C.of s<(C.mem.length:Int)):=by
 rcases h.ok.range hs with e | ⟨c,e,h1,_⟩
 ·exact .inl e
 ·exact .inr (by omega)
theorem HInv.eqv {d:List St} {O:Option Nat→Prop} {C:Cls} (h:HInv d O (fun _=>False) C) (hq:C.wq=[]) (s t:Nat) (hs:s<d.length) (ht:t<d.length) (e:C.of s=C.of t):Eqv (ofL d) (ofL d) s t:=by
 intro w
 have key:∀w (x y:Option Nat),(∀u,x=some u→u<d.length)→(∀u,y=some u→u<d.length)→C.cls x=C.cls y→(ofL d).acc x w=(ofL d).acc y w:=by
  intro w
  induction w with
  | nil=>
   intro x y hx hy e
   have hd:∀z:Option Nat,(∀u,z=some u→u<d.length)→C.cls z = -1→(ofL d).acc z []=false:=by
    intro z hz ez
    cases z with
    | none=>exact acc_none _ _
    | some u=>exact (h.dead u (hz u rfl)).1 ez []
   by_cases ex:C.cls x = -1
   ·rw [hd x hx ex,hd y hy (by rw [←e,ex])]
   ·cases x with
    | none=>exact absurd rfl ex
    | some u=>
     cases y with
     | none=>exact absurd (e.trans rfl) ex
     | some v=>
      have hu:=hx u rfl
      have:=h.lt hu
      exact h.fin u v hu (hy v rfl) e (by rcases this with k | k;exact absurd k ex;exact k.1)
  | cons a w ih=>
   intro x y hx hy e
   have hd:∀z:Option Nat,(∀u,z=some u→u<d.length)→C.cls z = -1→(ofL d).acc z (a :: w)=false:=by
    intro z hz ez
    cases z with
    | none=>exact acc_none _ _
    | some u=>exact (h.dead u (hz u rfl)).1 ez (a :: w)
   by_cases ex:C.cls x = -1
   ·rw [hd x hx ex,hd y hy (by rw [←e,ex])]
   ·cases x with
    | none=>exact absurd rfl ex
    | some u=>
     cases y with
     | none=>exact absurd (e.trans rfl) ex
     | some v=>
      have hu:=hx u rfl
      have hv:=hy v rfl
      have hp:0≤C.of u:=by rcases h.lt hu with k | k;exact absurd k ex;exact k.1
      rw [acc_cons,acc_cons]
      refine ih _ _ (fun z hz=>ofL_in h.rows hz) (fun z hz=>ofL_in h.rows hz) ?_
      exact h.stab u v a hu hv e hp (fun c hc=>by rw [hq] at hc;cases hc) (fun k=>k.elim)
 exact key w (some s) (some t) (fun u k=>by cases k;exact hs) (fun u k=>by cases k;exact ht) e
def quo (d:List St) (C:Cls):Walk Nat where
 go:=fun c b=>match (ofL d).step ((C.row c).getD 0 0) b with
  | none=>none
  | some t=>if C.of t = -1 then none else some (C.of t).toNat
 same:=fun a b=>decide (a=b)
 fin:=fun c=>(ofL d).fin ((C.row c).getD 0 0)
theorem quo_refl (d:List St) (C:Cls) (s:Nat):(quo d C).same s s=true:=decide_eq_true rfl
theorem HInv.rep {d:List St} {O:Option Nat→Prop} {R:Nat→Prop} {C:Cls} (h:HInv d O R C) {s c:Nat} (hs:s<d.length) (e:C.of s=(c:Int)):(C.row c).getD 0 0<d.length∧C.of ((C.row c).getD 0 0)=(c:Int)∧0<(C.row c).length:=by
 have hm:=h.ok.row_mem hs e
 cases hr:C.row c with
 | nil=>rw [hr] at hm;cases hm
 | cons x r=>
  have:=h.ok.mem_row (c:=c) (s:=x) (by rw [hr];exact List.mem_cons_self ..)
  exact ⟨this.1,this.2,by simp⟩
theorem quo_alike {d:List St} {O:Option Nat→Prop} {C:Cls} (h:HInv d O (fun _=>False) C) (hq:C.wq=[]):Alike (ofL d).walk (quo d C) (fun s c=>s<d.length∧C.of s=(c:Int)) where
 fin:=fun s c ⟨hs,e⟩=>by
  obtain ⟨r1,r2,_⟩:=h.rep hs e
  exact h.fin s _ hs r1 (by rw [e,r2]) (by omega)
 go:=fun s c ⟨hs,e⟩ b=>by
  obtain ⟨r1,r2,_⟩:=h.rep hs e
  have he:=h.eqv hq s _ hs r1 (by rw [e,r2])
  have hg:∀t,(ofL d).go ((C.row c).getD 0 0) b=some t→(quo d C).go c b=some (C.of t).toNat∧t<d.length∧0≤C.of t:=by
   intro t ht
   obtain ⟨h1,h2⟩:=go_some ht
   have hl:=ofL_in h.rows h1
   have:C.of t≠-1:=fun e=>h2 ((h.dead t hl).1 e)
   refine ⟨?_,hl,by rcases h.lt hl with k | k;exact absurd k this;exact k.1⟩
   show (match (ofL d).step ((C.row c).getD 0 0) b with | none=>none | some t=>if C.of t = -1 then none else some (C.of t).toNat)=_
   rw [h1]
   dsimp only
   rw [if_neg this]
  have hn:(ofL d).go ((C.row c).getD 0 0) b=none→(quo d C).go c b=none:=by
   intro ht
   have hd:=go_none ht
   show (match (ofL d).step ((C.row c).getD 0 0) b with | none=>none | some t=>if C.of t = -1 then none else some (C.of t).toNat)=_
   cases hs2:(ofL d).step ((C.row c).getD 0 0) b with
   | none=>rfl
   | some t=>
    dsimp only
    rw [hs2] at hd
    rw [if_pos ((h.dead t (ofL_in h.rows hs2)).2 hd)]
  rcases go_eqv he b with ⟨g1,g2⟩ | ⟨s',t',g1,g2,g3⟩
  ·exact .inl ⟨g1,hn g2⟩
  ·right
   obtain ⟨k1,k2,k3⟩:=hg t' g2
   have hs':=ofL_in h.rows (go_some g1).1
   have:=h.sound s' t' hs' k2 g3
   exact ⟨s',_,g1,k1,hs',by omega⟩
 same:=fun s c s' c' ⟨hs,e⟩ ⟨hs',e'⟩=>by
  show (ofL d).same s s'=decide (c=c')
  by_cases k:c=c'
  ·subst k
   rw [decide_eq_true rfl]
   exact (same_iff _ _ _).2 (h.eqv hq s s' hs hs' (by rw [e,e']))
  ·rw [decide_eq_false k,←Bool.not_eq_true,same_iff]
   intro e2
   have:=h.sound s s' hs hs' e2
   omega
theorem quo_least {d:List St} (hf:Fits d) {O:Option Nat→Prop} {C:Cls} (h:HInv d O (fun _=>False) C) (hq:C.wq=[]) (c:Nat) (hc:C.of 0=(c:Int)):(quo d C).Done c d.length∧(quo d C).out c d.length=least d∧∀i,((quo d C).met c i).length≤d.length:=by
 have ha:=quo_alike h hq
 have hst:=fun i=>ha.states (s:=0) (t:=c) ⟨hf.pos,hc⟩ i
 have hl:∀i,((quo d C).met c i).length=((ofL d).walk.met 0 i).length:=fun i=>((hst i).1.length).symm
 have hd:=least_done hf.pos hf.row
 have hd2:(quo d C).Done c d.length:=by
  unfold Walk.Done at *
  rw [hl]
  exact hd
 refine ⟨hd2,((hst d.length).2).symm,fun i=>?_⟩
 have:=met_le (quo d C) c i d.length hd2
 unfold Walk.Done at hd2
 omega
theorem quo_end {d:List St} (hf:Fits d) {O:Option Nat→Prop} {C:Cls} (h:HInv d O (fun _=>False) C) (hq:C.wq=[]) (c:Nat) (hc:C.of 0=(c:Int)) (i:Nat) (hi:((quo d C).met c i).length≤i):(quo d C).out c i=least d:=by
 obtain ⟨h1,h2,_⟩:=quo_least hf h hq c hc
 rw [←h2]
 unfold Walk.out
 rw [done_same (quo d C) c i d.length hi h1]
theorem alive_fin {d:List St} (hr:∀i (h:i<d.length),Row d.length 256 d[i].arcs) (s:Nat) (hs:s<d.length) (h:¬Dead (ofL d) (some s)):∃t,t<d.length∧(ofL d).fin t=true:=by
 apply Classical.byContradiction
 intro hn
 apply h
 intro w
 have key:∀w (x:Option Nat),(∀u,x=some u→u<d.length)→(ofL d).acc x w=false:=by
  intro w
  induction w with
  | nil=>
   intro x hx
   cases x with
   | none=>rfl
   | some u=>
    rw [acc_nil,←Bool.not_eq_true]
    exact fun e=>hn ⟨u,hx u rfl,e⟩
  | cons a w ih=>
   intro x hx
   cases x with
   | none=>rfl
   | some u=>
    rw [acc_cons]
    exact ih _ fun v hv=>ofL_in hr hv
 exact key w (some s) fun u e=>by cases e;exact hs
noncomputable def finals (d:List St):List Nat:=(List.range d.length).filter (fun i=>(ofL d).fin i)
open Classical in
noncomputable def others (d:List St):List Nat:=(List.range d.length).filter (fun i=>!(ofL d).fin i && !decide (Dead (ofL d) (some i)))
def Cls.none:Cls:=⟨fun _=>-1,fun _=>0,[],[],[]⟩
noncomputable def begun (d:List St):Cls:=((((Cls.none.found (finals d)).wait 0).found (others d)).wait 1)
theorem begun_inv {d:List St} (hf:Fits d) (h0:¬Dead (ofL d) (some 0)) (O:Option Nat→Prop):HInv d O (fun _=>False) (begun d):=by
 have hfm:∀s,s∈finals d↔s<d.length∧(ofL d).fin s=true:=fun s=>by simp [finals,List.mem_filter]
 have hom:∀s,s∈others d↔s<d.length∧(ofL d).fin s=false∧¬Dead (ofL d) (some s):=fun s=>by simp [others,List.mem_filter]
 have hnf:(finals d).Nodup:=List.Nodup.sublist List.filter_sublist List.nodup_range
 have hno:(others d).Nodup:=List.Nodup.sublist List.filter_sublist List.nodup_range
 have a0:OkBut d.length Cls.none (finals d):=⟨fun c i s h=>by simp [Cls.none,Cls.row] at h,fun s _ _=>.inl rfl⟩
 have a1:=found_ok a0 (finals d) hnf (fun _=>Iff.rfl) fun s hs=>((hfm s).1 hs).1
 have w0:WaitOk Cls.none:=⟨rfl,fun c=>by simp [Cls.none],by simp [Cls.none]⟩
 have w1:=wait_wait (found_wait w0 (finals d)) 0 (by simp [Cls.found,Cls.none]) (by simp [Cls.found,Cls.none])
 have w2:=wait_wait (found_wait w1 (others d)) 1 (by simp [Cls.found,Cls.none,Cls.wait]) (by simp [Cls.found,Cls.none,Cls.wait])
 have e1:((Cls.none.found (finals d)).wait 0).mem.length=1:=by simp [Cls.found,Cls.none,Cls.wait]
 have row1:∀c,((Cls.none.found (finals d)).wait 0).row c=if c=0 then finals d else []:=fun c=>by
  show (Cls.none.found (finals d)).row c=_
  rw [found_row]
  rfl
 have a2:OkBut d.length ((Cls.none.found (finals d)).wait 0) (others d):=by
  refine ⟨fun c i s hs=>?_,fun s hs hs2=>?_⟩
  ·obtain ⟨h1,h2,h3,_⟩:=a1.mem c i s hs
   refine ⟨h1,h2,h3,fun e=>?_⟩
   rw [row1] at hs
   split at hs
   ·obtain ⟨hl,he⟩:=List.getElem?_eq_some_iff.1 hs
    have:=(hfm s).1 (he ▸ List.getElem_mem hl)
    have:=(hom s).1 e
    simp_all
   ·cases hs
  ·exact a1.of s hs (by simp)
 have a3:=found_ok a2 (others d) hno (fun _=>Iff.rfl) fun s hs=>((hom s).1 hs).1
 have hof:∀s,(begun d).of s=if s∈others d then 1 else if s∈finals d then 0 else -1:=fun s=>by
  show (if s∈others d then (((Cls.none.found (finals d)).wait 0).mem.length:Int) else if s∈finals d then ((0:Nat):Int) else -1)=_
  rw [e1]
  rfl
 have hofr:∀s,s<d.length→((begun d).of s=1∧(ofL d).fin s=false∧¬Dead (ofL d) (some s))∨((begun d).of s=0∧(ofL d).fin s=true)∨((begun d).of s = -1∧(ofL d).fin s=false∧Dead (ofL d) (some s)):=by
  intro s hs
  rw [hof]
  by_cases h1:s∈others d
  ·rw [if_pos h1];exact .inl ⟨rfl,((hom s).1 h1).2⟩
  ·rw [if_neg h1]
   by_cases h2:s∈finals d
   ·rw [if_pos h2];exact .inr (.inl ⟨rfl,((hfm s).1 h2).2⟩)
   ·rw [if_neg h2]
    have h3:(ofL d).fin s=false:=by
     rw [←Bool.not_eq_true]
     exact fun e=>h2 ((hfm s).2 ⟨hs,e⟩)
    refine .inr (.inr ⟨rfl,h3,?_⟩)
    apply Classical.byContradiction
    intro h4
    exact h1 ((hom s).2 ⟨hs,h3,h4⟩)
 have hfd:∀s,(ofL d).fin s=true→¬Dead (ofL d) (some s):=fun s e k=>by
  have:=k []
  rw [acc_nil,e] at this
  cases this
 have hlen:(begun d).mem.length=2:=by simp [begun,Cls.found,Cls.none,Cls.wait]
 refine ⟨hf.row,⟨a3.mem,a3.of⟩,w2,?_,?_,?_,?_,?_⟩
 ·intro s t hs ht he
  have h1:=he.fin
  have h2:Dead (ofL d) (some s)↔Dead (ofL d) (some t):=⟨fun k w=>by rw [←he w];exact k w,fun k w=>by rw [he w];exact k w⟩
  rcases hofr s hs with ⟨k1,k2,k3⟩ | ⟨k1,k2⟩ | ⟨k1,k2,k3⟩ <;> rcases hofr t ht with ⟨j1,j2,j3⟩ | ⟨j1,j2⟩ | ⟨j1,j2,j3⟩ <;> first | (rw [k1,j1];done) | (exfalso;rw [k2,j2] at h1;exact absurd h1 (by decide)) | (exfalso;exact k3 (h2.2 j3)) | (exfalso;exact j3 (h2.1 k3))
 ·intro s hs
  rcases hofr s hs with ⟨k1,k2,k3⟩ | ⟨k1,k2⟩ | ⟨k1,k2,k3⟩
  ·rw [k1];exact ⟨fun e=>by omega,fun e=>absurd e k3⟩
  ·rw [k1];exact ⟨fun e=>by omega,fun e=>absurd e (hfd s k2)⟩
  ·exact ⟨fun _=>k3,fun _=>k1⟩
 ·intro s t hs ht e e2
  rcases hofr s hs with ⟨k1,k2,k3⟩ | ⟨k1,k2⟩ | ⟨k1,k2,k3⟩ <;> rcases hofr t ht with ⟨j1,j2,j3⟩ | ⟨j1,j2⟩ | ⟨j1,j2,j3⟩ <;> first | (exfalso;omega) | (rw [k2,j2];done)
 ·intro s t a hs ht e e2 hw _
  have hq:(begun d).wq=[0,1]:=rfl
  have h0:=hw 0 (by rw [hq];simp)
  have h1:=hw 1 (by rw [hq];simp)
  have hr:∀x:Option Nat,(∀u,x=some u→u<d.length)→(begun d).cls x = -1∨(begun d).cls x=0∨(begun d).cls x=1:=by
   intro x hx
   cases x with
   | none=>exact .inl rfl
   | some u=>rcases hofr u (hx u rfl) with k | k | k <;> simp [Cls.cls,k.1]
  have r1:=hr ((ofL d).step s a) fun u hu=>ofL_in hf.row hu
  have r2:=hr ((ofL d).step t a) fun u hu=>ofL_in hf.row hu
  simp only [Int.natCast_zero,Int.natCast_one] at h0 h1
  omega
 ·intro c hc h1
  rw [hlen] at hc
  obtain rfl:c=0:=by omega
  have:(begun d).row 0=finals d:=by
   show ((((Cls.none.found (finals d)).wait 0).found (others d)).row 0)=_
   rw [found_row,e1,if_neg (by omega),row1,if_pos rfl]
  rw [this]
  obtain ⟨t,ht,hft⟩:=alive_fin hf.row 0 hf.pos h0
  intro e
  have:=(hfm t).2 ⟨ht,hft⟩
  rw [e] at this
  cases this
end Au
end
section
namespace Au
def Arc.holds (a:Arc) (c:Nat):Bool:=decide (a.lo≤(c:Int))&&decide ((c:Int)≤a.hi)
theorem holds_iff (a:Arc) (c:Nat):a.holds c=true↔a.lo≤(c:Int)∧(c:Int)≤a.hi:=by simp [Arc.holds]
def hits (A:List Arc) (c:Nat):List Int:=(A.filter (fun a=>a.holds c)).map (fun a=>a.to)
theorem hits_cons (a:Arc) (A:List Arc) (c:Nat):hits (a :: A) c=if a.holds c=true then a.to :: hits A c else hits A c:=by
 unfold hits
 rw [List.filter_cons]
 split <;> rfl
theorem hits_append (A B:List Arc) (c:Nat):hits (A++B) c=hits A c++hits B c:=by simp [hits]
theorem mem_hits (A:List Arc) (c:Nat) (x:Int):x∈hits A c↔∃a∈A,(a.lo≤(c:Int)∧(c:Int)≤a.hi)∧a.to=x:=by
 unfold hits
 rw [List.mem_map]
 constructor
 ·rintro ⟨a,ha,h⟩
  obtain ⟨h1,h2⟩:=List.mem_filter.1 ha
  exact ⟨a,h1,(holds_iff a c).1 h2,h⟩
 ·rintro ⟨a,ha,h1,h2⟩
  exact ⟨a,List.mem_filter.2 ⟨ha,(holds_iff a c).2 h1⟩,h2⟩
structure Strch where
 lo:Nat
 hi:Nat
 to:List Int
def Cut (A:List Arc):Nat→List Strch→Prop
 | c,[]=>∀x,c≤x→x<256→hits A x=[]
 | c,g :: r=>c≤g.lo∧g.lo≤g.hi∧g.hi<256∧g.to≠[]∧(∀x,c≤x→x<g.lo→hits A x=[])∧(∀x,g.lo≤x→x≤g.hi→hits A x=g.to)∧Cut A (g.hi+1) r
def Beside (A:List Arc):Nat→List Strch→Prop
 | c,[]=>c=256
 | c,g :: r=>g.lo=c∧g.lo≤g.hi∧g.hi<256∧(∀x,g.lo≤x→x≤g.hi→hits A x=g.to)∧Beside A (g.hi+1) r
theorem cut_back (A:List Arc) (S:List Strch) (c c':Nat) (hc:c≤c') (h:∀x,c≤x→x<c'→hits A x=[]) (hS:Cut A c' S):Cut A c S:=by
 cases S with
 | nil=>
  intro x h1 h2
  by_cases e:x<c'
  ·exact h x h1 e
  ·exact hS x (by omega) h2
 | cons g r=>
  obtain ⟨h1,h2,h3,h4,h5,h6,h7⟩:=hS
  refine ⟨by omega,h2,h3,h4,fun x k1 k2=>?_,h6,h7⟩
  by_cases e:x<c'
  ·exact h x k1 e
  ·exact h5 x (by omega) k2
theorem beside_cut (A:List Arc) (S:List Strch):∀c,Beside A c S→Cut A c (S.filter (fun g=>!g.to.isEmpty)):=by
 induction S with
 | nil=>
  intro c h x h1 h2
  have:c=256:=h
  omega
 | cons g r ih=>
  intro c h
  obtain ⟨h1,h2,h3,h4,h5⟩:=h
  rw [List.filter_cons]
  by_cases e:g.to=[]
  ·have:(!g.to.isEmpty)=false:=by rw [e];rfl
   rw [this]
   exact cut_back A _ c (g.hi+1) (by omega) (fun x k1 k2=>by rw [h4 x (by omega) (by omega),e]) (ih _ h5)
  ·have:(!g.to.isEmpty)=true:=by
    cases hg:g.to with
    | nil=>exact absurd hg e
    | cons _ _=>rfl
   rw [this]
   exact ⟨by omega,h2,h3,e,fun x k1 k2=>by omega,h4,ih _ h5⟩
theorem Cut.few {A:List Arc} {S:List Strch}:∀ {c:Nat},c≤256→Cut A c S→S.length+c≤256:=by
 induction S with
 | nil=>intro c hc _;simpa using hc
 | cons g r ih=>
  intro c hc h
  obtain ⟨h1,h2,h3,_,_,_,h6⟩:=h
  have:=ih (by omega) h6
  simp only [List.length_cons]
  omega
theorem Cut.each {A:List Arc} {S:List Strch}:∀ {c:Nat},Cut A c S→∀g∈S,c≤g.lo∧g.lo≤g.hi∧g.hi<256∧g.to≠[]∧∀x,g.lo≤x→x≤g.hi→hits A x=g.to:=by
 induction S with
 | nil=>intro c _ g hg;cases hg
 | cons g0 r ih=>
  intro c h g hg
  obtain ⟨h1,h2,h3,h4,h5,h6,h7⟩:=h
  rcases List.mem_cons.1 hg with rfl | hg
  ·exact ⟨h1,h2,h3,h4,h6⟩
  ·obtain ⟨k1,k2⟩:=ih h7 g hg
   exact ⟨by omega,k2⟩
theorem Cut.none {A:List Arc} {S:List Strch}:∀ {c:Nat},Cut A c S→∀x,c≤x→x<256→(∀g∈S,¬(g.lo≤x∧x≤g.hi))→hits A x=[]:=by
 induction S with
 | nil=>intro c h x h1 h2 _;exact h x h1 h2
 | cons g0 r ih=>
  intro c h x k1 k2 k3
  obtain ⟨h1,h2,h3,h4,h5,h6,h7⟩:=h
  by_cases e:x<g0.lo
  ·exact h5 x k1 e
  ·have:=k3 g0 (List.mem_cons_self ..)
   exact ih h7 x (by omega) k2 fun g hg=>k3 g (List.mem_cons_of_mem _ hg)
theorem cut_leads {σ:Type} (W:Walk σ) (s:σ) (A:List Arc) (f:List Int→σ) (hn:∀x,x<256→hits A x=[]→W.go s x=none) (hs:∀x,x<256→hits A x≠[]→W.go s x=some (f (hits A x))) (S:List Strch):
  ∀c,Cut A c S→Leads W s c (S.map fun g=>⟨g.lo,g.hi,f g.to⟩):=by
 induction S with
 | nil=>intro c h x h1 h2;exact hn x h2 (h x h1 h2)
 | cons g r ih=>
  intro c h
  obtain ⟨h1,h2,h3,h4,h5,h6,h7⟩:=h
  refine ⟨h1,h2,h3,fun x k1 k2=>hn x (by dsimp only at k2;omega) (h5 x k1 k2),fun x k1 k2=>?_,ih _ h7⟩
  have:=h6 x k1 k2
  have h8:=hs x (by dsimp only at k2;omega) (by rw [this];exact h4)
  rw [this] at h8
  exact h8
def cnt (b:Nat→Bool):Nat→Nat
 | 0=>0
 | c+1=>cnt b c+if b (c+1)=true then 1 else 0
theorem cnt_mono (b:Nat→Bool) (c e:Nat):cnt b c≤cnt b (c+e):=by
 induction e with
 | zero=>exact Nat.le_refl _
 | succ e ih=>
  have:cnt b (c+(e+1))=cnt b (c+e)+if b (c+e+1)=true then 1 else 0:=rfl
  rw [this]
  omega
theorem cnt_le (b:Nat→Bool) {c e:Nat} (h:c≤e):cnt b c≤cnt b e:=by
 obtain ⟨k,rfl⟩:∃k,e=c+k:=⟨e-c,by omega⟩
 exact cnt_mono b c k
theorem holds_cnt (b:Nat→Bool) (a:Arc) (h0:0≤a.lo) (h1:a.lo≤a.hi) (hb1:a.lo.toNat=0∨b a.lo.toNat=true) (hb2:b (a.hi.toNat+1)=true) (x:Nat):
  a.holds x=true↔cnt b a.lo.toNat≤cnt b x∧cnt b x≤cnt b a.hi.toNat:=by
 rw [holds_iff]
 constructor
 ·rintro ⟨k1,k2⟩
  exact ⟨cnt_le b (by omega),cnt_le b (by omega)⟩
 ·rintro ⟨k1,k2⟩
  constructor
  ·apply Classical.byContradiction
   intro hc
   obtain ⟨l,hl⟩:∃l,a.lo.toNat=l+1:=⟨a.lo.toNat-1,by omega⟩
   rcases hb1 with e | e
   ·omega
   ·rw [hl] at e k1
    simp only [cnt,e,if_true] at k1
    have:=cnt_le b (show x≤l by omega)
    omega
  ·apply Classical.byContradiction
   intro hc
   have h3:=cnt_le b (show a.hi.toNat+1≤x by omega)
   simp only [cnt,hb2,if_true] at h3
   omega
structure Segs (b:Nat→Bool) (c:Nat) (Z:List (Nat × Nat)):Prop where
 len:Z.length=if c=0 then 0 else cnt b (c-1)+1
 each:∀k (h:k<Z.length),Z[k].1≤Z[k].2∧Z[k].2<c∧∀x,x<c→(cnt b x=k↔Z[k].1≤x∧x≤Z[k].2)
theorem segs_zero (b:Nat→Bool):Segs b 0 []:=⟨rfl,fun k h=>by simp at h⟩
theorem segs_new {b:Nat→Bool} {c:Nat} {Z:List (Nat × Nat)} (h:Segs b c Z) (hb:c=0∨b c=true):Segs b (c+1) (Z++[(c,c)])∧cnt b c=Z.length:=by
 have hl:cnt b c=Z.length:=by
  rw [h.len]
  cases c with
  | zero=>rfl
  | succ c=>
   rcases hb with e | e
   ·omega
   ·simp [cnt,e]
 refine ⟨⟨?_,fun k hk=>?_⟩,hl⟩
 ·rw [List.length_append,if_neg (by omega),Nat.add_sub_cancel,hl]
  rfl
 ·rw [List.length_append] at hk
  by_cases e:k<Z.length
  ·rw [List.getElem_append_left e]
   obtain ⟨h1,h2,h3⟩:=h.each k e
   refine ⟨h1,by omega,fun x hx=>?_⟩
   by_cases ex:x=c
   ·subst ex
    rw [hl]
    constructor <;> intro <;> omega
   ·exact h3 x (by omega)
  ·have e':k=Z.length:=by simp at hk;omega
   subst e'
   simp only [List.getElem_append_right (Nat.le_refl _),Nat.sub_self,List.getElem_cons_zero]
   refine ⟨Nat.le_refl _,by omega,fun x hx=>?_⟩
   by_cases ex:x=c
   ·subst ex
    rw [hl]
    exact ⟨fun _=>⟨Nat.le_refl _,Nat.le_refl _⟩,fun _=>rfl⟩
   ·constructor
    ·intro k
     exfalso
     cases c with
     | zero=>omega
     | succ c=>
      have h1:=cnt_le b (show x≤c by omega)
      have h2:=h.len
      simp only [Nat.add_eq_zero_iff,Nat.succ_ne_self,Nat.add_sub_cancel,if_false,and_false] at h2
      omega
    ·rintro ⟨k1,k2⟩;omega
theorem segs_more {b:Nat→Bool} {c:Nat} {Z:List (Nat × Nat)} (h:Segs b c Z) (h0:c≠0) (hb:b c=false):∃Y z,Z=Y++[z]∧Segs b (c+1) (Y++[(z.1,c)])∧cnt b c+1=Z.length:=by
 obtain ⟨p,rfl⟩:∃p,c=p+1:=⟨c-1,by omega⟩
 have hlen:=h.len
 rw [if_neg (by omega),Nat.add_sub_cancel] at hlen
 have hcp:cnt b (p+1)=cnt b p:=by simp [cnt,hb]
 rcases List.eq_nil_or_concat Z with e | ⟨Y,z,e⟩
 ·rw [e] at hlen;simp at hlen
 ·rw [List.concat_eq_append] at e
  subst e
  rw [List.length_append] at hlen
  simp only [List.length_cons,List.length_nil] at hlen
  have hYl:Y.length=cnt b p:=by omega
  refine ⟨Y,z,rfl,⟨?_,fun k hk=>?_⟩,by rw [List.length_append,hcp,hYl];rfl⟩
  ·rw [List.length_append,if_neg (by omega),Nat.add_sub_cancel,hcp,hYl]
   rfl
  ·rw [List.length_append] at hk
   simp only [List.length_cons,List.length_nil] at hk
   by_cases e:k<Y.length
   ·rw [List.getElem_append_left e]
    obtain ⟨h1,h2,h3⟩:=h.each k (by rw [List.length_append];omega)
    rw [List.getElem_append_left e] at h1 h2 h3
    refine ⟨h1,by omega,fun x hx=>?_⟩
    by_cases ex:x=p+1
    ·subst ex
     rw [hcp]
     constructor <;> intro <;> omega
    ·exact h3 x (by omega)
   ·have e':k=Y.length:=by omega
    subst e'
    obtain ⟨h1,h2,h3⟩:=h.each Y.length (by rw [List.length_append];simp)
    simp only [List.getElem_append_right (Nat.le_refl _),Nat.sub_self,List.getElem_cons_zero] at h1 h2 h3 ⊢
    have hz2:z.2=p:=by
     have:=(h3 p (by omega)).1 hYl.symm
     omega
    refine ⟨by omega,by omega,fun x hx=>?_⟩
    by_cases ex:x=p+1
    ·subst ex
     rw [hcp]
     exact ⟨fun _=>⟨by omega,Nat.le_refl _⟩,fun _=>hYl.symm⟩
    ·rw [h3 x (by omega)]
     constructor <;> rintro ⟨k1,k2⟩ <;> constructor <;> omega
theorem segs_beside {b:Nat→Bool} {Z:List (Nat × Nat)} (h:Segs b 256 Z) (A:List Arc) (T:List (List Int)) (hT:T.length=Z.length) (ht:∀k (hk:k<T.length) x,x<256→cnt b x=k→hits A x=T[k]):
  Beside A 0 ((List.range Z.length).map fun k=>⟨(Z.getD k (0,0)).1,(Z.getD k (0,0)).2,T.getD k []⟩):=by
 have hlen:Z.length=cnt b 255+1:=by
  have:=h.len
  rwa [if_neg (by omega)] at this
 have hlo:∀k (hk:k<Z.length),cnt b Z[k].1=k∧cnt b Z[k].2=k:=fun k hk=>by
  obtain ⟨h1,h2,h3⟩:=h.each k hk
  exact ⟨(h3 _ (by omega)).2 ⟨Nat.le_refl _,h1⟩,(h3 _ (by omega)).2 ⟨h1,Nat.le_refl _⟩⟩
 have main:∀m k,k+m=Z.length→Beside A (if hk:k<Z.length then Z[k].1 else 256) ((List.range' k m).map fun k=>⟨(Z.getD k (0,0)).1,(Z.getD k (0,0)).2,T.getD k []⟩):=by
  intro m
  induction m with
  | zero=>
   intro k hk
   rw [dif_neg (by omega)]
   rfl
  | succ m ih=>
   intro k hk
   have hkl:k<Z.length:=by omega
   obtain ⟨h1,h2,h3⟩:=h.each k hkl
   rw [dif_pos hkl,List.range'_succ,List.map_cons]
   have e1:Z.getD k (0,0)=Z[k]:=by simp [List.getD,hkl]
   have e2:T.getD k []=T[k]'(by omega):=by simp [List.getD,hT,hkl]
   rw [e1,e2]
   refine ⟨rfl,h1,h2,fun x k1 k2=>ht k (by omega) x (by dsimp only at k2;omega) ((h3 x (by dsimp only at k2;omega)).2 ⟨k1,k2⟩),?_⟩
   have:=ih (k+1) (by omega)
   have e3:(if hk:k+1<Z.length then Z[k+1].1 else 256)=Z[k].2+1:=by
    by_cases e:k+1<Z.length
    ·rw [dif_pos e]
     obtain ⟨g1,g2,g3⟩:=h.each (k+1) e
     have l1:=hlo k hkl
     have l2:=hlo (k+1) e
     have lt1:Z[k].2<Z[k+1].1:=by
      apply Classical.byContradiction
      intro hc
      have:=cnt_le b (show Z[k+1].1≤Z[k].2 by omega)
      omega
     apply Classical.byContradiction
     intro hc
     have a1:=cnt_le b (show Z[k].2≤Z[k].2+1 by omega)
     have a2:=cnt_le b (show Z[k].2+1≤Z[k+1].1 by omega)
     have hx:Z[k].2+1<256:=by omega
     rcases Nat.lt_or_ge (cnt b (Z[k].2+1)) (k+1) with q | q
     ·have:=(h3 (Z[k].2+1) hx).1 (by omega)
      omega
     ·have:=(g3 (Z[k].2+1) hx).1 (by omega)
      omega
    ·rw [dif_neg e]
     have l1:=hlo k hkl
     have:=(h3 255 (by omega)).1 (by omega)
     omega
   rw [e3] at this
   exact this
 have:=main Z.length 0 (by omega)
 have hZ:0<Z.length:=by omega
 rw [dif_pos hZ,←List.range_eq_range'] at this
 have h0:Z[0].1=0:=by
  have:=((h.each 0 hZ).2.2 0 (by omega)).1 rfl
  omega
 rw [h0] at this
 exact this
end Au
end
section
namespace Au
def arcsOf (d:List St) (i:Nat):List Arc:=match d[i]? with
 | some s=>s.arcs
 | none=>[]
def backRow (l:List Arc) (t i:Nat):List Arc:=(l.filter (fun a=>decide (a.to=(t:Int)))).map (fun a=>⟨a.lo,a.hi,(i:Int)⟩)
def back (d:List St) (t:Nat):List Arc:=(List.range d.length).flatMap fun i=>backRow (arcsOf d i) t i
def backTo (d:List St) (i k t:Nat):List Arc:=((List.range i).flatMap fun j=>backRow (arcsOf d j) t j)++backRow ((arcsOf d i).take k) t i
theorem backTo_zero (d:List St) (t:Nat):backTo d 0 0 t=[]:=rfl
theorem backTo_step (d:List St) (i k t:Nat) (h:k<(arcsOf d i).length):backTo d i (k+1) t=if (arcsOf d i)[k].to=(t:Int) then backTo d i k t++[⟨(arcsOf d i)[k].lo,(arcsOf d i)[k].hi,(i:Int)⟩] else backTo d i k t:=by
 unfold backTo backRow
 rw [List.take_succ_eq_append_getElem h,List.filter_append,List.map_append,←List.append_assoc]
 by_cases e:(arcsOf d i)[k].to=(t:Int)
 ·rw [if_pos e]
  simp [e]
 ·rw [if_neg e]
  simp [e]
theorem backTo_row (d:List St) (i t:Nat):backTo d i (arcsOf d i).length t=backTo d (i+1) 0 t:=by
 unfold backTo
 rw [List.take_length,List.range_succ,List.flatMap_append]
 simp [backRow]
theorem backTo_all (d:List St) (t:Nat):backTo d d.length 0 t=back d t:=by
 unfold backTo back
 simp [backRow]
theorem backTo_len (d:List St) (i k t:Nat):(backTo d i k t).length≤((List.range i).flatMap fun j=>arcsOf d j).length+k:=by
 unfold backTo
 rw [List.length_append]
 have h1:∀l:List Arc,∀t j,(backRow l t j).length≤l.length:=fun l t j=>by
  unfold backRow
  rw [List.length_map]
  exact List.length_filter_le _ _
 have h2:∀i,((List.range i).flatMap fun j=>backRow (arcsOf d j) t j).length≤((List.range i).flatMap fun j=>arcsOf d j).length:=by
  intro i
  induction i with
  | zero=>simp
  | succ i ih=>
   rw [List.range_succ,List.flatMap_append,List.flatMap_append,List.length_append,List.length_append]
   have:=h1 (arcsOf d i) t i
   simp only [List.flatMap_cons,List.flatMap_nil,List.append_nil]
   omega
 have h3:=h1 ((arcsOf d i).take k) t i
 have h4:=h2 i
 have h5:=List.length_take_le k (arcsOf d i)
 omega
theorem Row.tail {n:Nat} {c:Int} {a:Arc} {r:List Arc} (h:Row n c (a :: r)):Row n c r∧(0≤a.lo∧a.lo≤a.hi∧a.hi<c∧0≤a.to∧a.to<n)∧∀x∈r,a.hi<x.lo:=by
 refine ⟨⟨fun k hk=>?_,fun k hk=>?_⟩,?_,?_⟩
 ·have:=h.1 (k+1) (by simp;omega)
  simpa using this
 ·have:=h.2 (k+1) (by simp;omega)
  simpa using this
 ·have:=h.1 0 (by simp)
  simpa using this
 ·have main:∀k (hk:k<r.length),a.hi<r[k].lo:=by
   intro k
   induction k with
   | zero=>
    intro hk
    have:=h.2 0 (by simp;omega)
    simpa using this
   | succ k ih=>
    intro hk
    have h1:=ih (by omega)
    have h2:=h.2 (k+1) (by simp;omega)
    have h3:=h.1 (k+1) (by simp;omega)
    simp only [List.getElem_cons_succ] at h2 h3
    omega
  intro x hx
  obtain ⟨k,hk,rfl⟩:=List.getElem_of_mem hx
  exact main k hk
theorem hits_backRow {n:Nat} {c:Int} (l:List Arc) (t i b:Nat) (h:Row n c l):hits (backRow l t i) b=if look l (b:Int)=some (t:Int) then [(i:Int)] else []:=by
 induction l with
 | nil=>rfl
 | cons a r ih=>
  obtain ⟨h1,h2,h3⟩:=h.tail
  have hno:a.lo≤(b:Int)∧(b:Int)≤a.hi→hits (backRow r t i) b=[]:=by
   intro ⟨k1,k2⟩
   rw [List.eq_nil_iff_forall_not_mem]
   intro x hx
   obtain ⟨y,hy,⟨y1,y2⟩,_⟩:=(mem_hits _ _ _).1 hx
   unfold backRow at hy
   obtain ⟨z,hz,rfl⟩:=List.mem_map.1 hy
   have:=h3 z (List.mem_filter.1 hz).1
   dsimp only at y1
   omega
  have e:backRow (a :: r) t i=(if a.to=(t:Int) then [⟨a.lo,a.hi,(i:Int)⟩] else [])++backRow r t i:=by
   unfold backRow
   rw [List.filter_cons]
   by_cases k:a.to=(t:Int) <;> simp [k]
  rw [e,hits_append]
  have hl:look (a :: r) (b:Int)=if a.lo≤(b:Int)∧(b:Int)≤a.hi then some a.to else look r (b:Int):=rfl
  by_cases hb:a.lo≤(b:Int)∧(b:Int)≤a.hi
  ·rw [if_pos hb] at hl
   rw [hl,hno hb,List.append_nil]
   by_cases k:a.to=(t:Int)
   ·rw [if_pos k,if_pos (by rw [k]),hits_cons,if_pos ((holds_iff ⟨a.lo,a.hi,(i:Int)⟩ b).2 hb)]
    rfl
   ·rw [if_neg k,if_neg (fun e=>k (by injection e))]
    rfl
  ·rw [if_neg hb] at hl
   rw [hl,ih h1]
   have:hits (if a.to=(t:Int) then [(⟨a.lo,a.hi,(i:Int)⟩:Arc)] else []) b=[]:=by
    by_cases k:a.to=(t:Int)
    ·rw [if_pos k,hits_cons,if_neg (fun e=>hb ((holds_iff ⟨a.lo,a.hi,(i:Int)⟩ b).1 e))]
     rfl
    ·rw [if_neg k];rfl
   rw [this,List.nil_append]
theorem hits_flatMap {α:Type} (l:List α) (f:α→List Arc) (b:Nat):hits (l.flatMap f) b=l.flatMap fun x=>hits (f x) b:=by
 induction l with
 | nil=>rfl
 | cons x r ih=>rw [List.flatMap_cons,hits_append,ih,List.flatMap_cons]
theorem look_step (d:List St) (i b t:Nat) (hr:∀i (h:i<d.length),Row d.length 256 d[i].arcs):look (arcsOf d i) (b:Int)=some (t:Int)↔(ofL d).step i b=some t:=by
 unfold arcsOf
 simp only [ofL]
 cases hd:d[i]? with
 | none=>simp [look]
 | some s=>
  dsimp only
  obtain ⟨hl,rfl⟩:=List.getElem?_eq_some_iff.1 hd
  cases hx:look d[i].arcs (b:Int) with
  | none=>simp
  | some u=>
   have:=look_in (n:=d.length) (fun k hk=>by have:=(hr i hl).1 k hk;omega) hx
   simp only [Option.some.injEq,Option.map_some]
   omega
theorem arcsOf_row {d:List St} (hr:∀i (h:i<d.length),Row d.length 256 d[i].arcs) (i:Nat):Row d.length 256 (arcsOf d i):=by
 unfold arcsOf
 cases hd:d[i]? with
 | none=>exact Row.nil _ _
 | some s=>
  obtain ⟨hl,rfl⟩:=List.getElem?_eq_some_iff.1 hd
  exact hr i hl
theorem hits_back {d:List St} (hr:∀i (h:i<d.length),Row d.length 256 d[i].arcs) (t b:Nat):hits (back d t) b=(List.range d.length).flatMap fun i=>if (ofL d).step i b=some t then [(i:Int)] else []:=by
 unfold back
 rw [hits_flatMap]
 congr 1
 funext i
 rw [hits_backRow _ t i b (arcsOf_row hr i)]
 by_cases h:(ofL d).step i b=some t
 ·rw [if_pos h,if_pos ((look_step d i b t hr).2 h)]
 ·rw [if_neg h,if_neg (fun e=>h ((look_step d i b t hr).1 e))]
theorem mem_whence {d:List St} (hr:∀i (h:i<d.length),Row d.length 256 d[i].arcs) (M:List Nat) (b:Nat) (x:Int):x∈hits (M.flatMap (back d)) b↔∃i:Nat,x=(i:Int)∧i<d.length∧∃t∈M,(ofL d).step i b=some t:=by
 rw [hits_flatMap,List.mem_flatMap]
 constructor
 ·rintro ⟨t,ht,hx⟩
  rw [hits_back hr,List.mem_flatMap] at hx
  obtain ⟨i,hi,hx⟩:=hx
  split at hx
  ·rename_i h
   rw [List.mem_singleton] at hx
   exact ⟨i,hx,List.mem_range.1 hi,t,ht,h⟩
  ·cases hx
 ·rintro ⟨i,rfl,hi,t,ht,h⟩
  refine ⟨t,ht,?_⟩
  rw [hits_back hr,List.mem_flatMap]
  exact ⟨i,List.mem_range.2 hi,by rw [if_pos h];exact List.mem_singleton.2 rfl⟩
theorem whence_nodup {d:List St} (hr:∀i (h:i<d.length),Row d.length 256 d[i].arcs) (M:List Nat) (hM:M.Nodup) (b:Nat):(hits (M.flatMap (back d)) b).Nodup:=by
 rw [hits_flatMap]
 unfold List.Nodup at *
 rw [List.pairwise_flatMap]
 refine ⟨fun t _=>?_,hM.imp fun {t u} htu x hx y hy=>?_⟩
 ·rw [hits_back hr,List.pairwise_flatMap]
  refine ⟨fun i _=>?_,List.nodup_range.imp fun {i j} hij x hx y hy=>?_⟩
  ·split <;> simp
  ·split at hx
   ·split at hy
    ·rw [List.mem_singleton] at hx hy
     omega
    ·cases hy
   ·cases hx
 ·rw [hits_back hr,List.mem_flatMap] at hx hy
  obtain ⟨i,_,hx⟩:=hx
  obtain ⟨j,_,hy⟩:=hy
  split at hx
  ·rename_i h1
   split at hy
   ·rename_i h2
    rw [List.mem_singleton] at hx hy
    intro e
    have:i=j:=by omega
    subst this
    rw [h1] at h2
    cases h2
    exact htu rfl
   ·cases hy
  ·cases hx
end Au
end
section
open Go.RowKit
namespace Au
noncomputable def bothE (a b:List St) (most:Int):Int:=if check a=0∧check b=0 then (if (pairs a b:Int)≤most then 0 else 8) else 3
noncomputable def bothL (a b:List St) (most:Int):List St:=if check a=0∧check b=0 then (if (pairs a b:Int)≤most then least (meets a b) else []) else []
theorem pair_go_in {a b:List St} (ha:Fits a) (hb:Fits b):∀(p:Nat × Nat) (c:Nat) (q:Nat × Nat),p.1<a.length∧p.2<b.length→(pair (ofL a) (ofL b)).step p c=some q→q.1<a.length∧q.2<b.length:=by
 rintro ⟨s,t⟩ c ⟨s',t'⟩ _ h
 simp only [pair] at h
 split at h
 ·rename_i x y e1 e2
  cases h
  exact ⟨ofL_in ha.row e1,ofL_in hb.row e2⟩
 ·cases h
theorem pairs_many {a b:List St} (ha:Fits a) (hb:Fits b) {most:Int} (i:Nat) (h:most<((pair (ofL a) (ofL b)).plain.met (0,0) i).length):¬(pairs a b:Int)≤most:=by
 have:=met_le (pair (ofL a) (ofL b)).plain (0,0) i _ (pairs_done ha.row hb.row ha.pos hb.pos)
 unfold pairs
 omega
theorem pairs_few {a b:List St} (ha:Fits a) (hb:Fits b) (i:Nat) (h:(pair (ofL a) (ofL b)).plain.Done (0,0) i):pairs a b=((pair (ofL a) (ofL b)).plain.met (0,0) i).length∧meets a b=(pair (ofL a) (ofL b)).plain.out (0,0) i:=by
 have h1:=done_same (pair (ofL a) (ofL b)).plain (0,0) i _ h (pairs_done ha.row hb.row ha.pos hb.pos)
 unfold pairs meets Walk.met Walk.out
 rw [h1]
 exact ⟨rfl,rfl⟩
end Au
end
section
open Go.RowKit
namespace Au
theorem both_out_bad {a b:List St} {most:Int} (h:¬(check a=0∧check b=0)):bothE a b most=3∧bothL a b most=[]:=⟨by unfold bothE;rw [if_neg h],by unfold bothL;rw [if_neg h]⟩
theorem both_out_many {a b:List St} {most:Int} (h:check a=0∧check b=0) (h2:¬(pairs a b:Int)≤most):bothE a b most=8∧bothL a b most=[]:=⟨by unfold bothE;rw [if_pos h,if_neg h2],by unfold bothL;rw [if_pos h,if_neg h2]⟩
theorem both_out_few {a b:List St} {most:Int} (h:check a=0∧check b=0) (h2:(pairs a b:Int)≤most):bothE a b most=0∧bothL a b most=least (meets a b):=⟨by unfold bothE;rw [if_pos h,if_pos h2],by unfold bothL;rw [if_pos h,if_pos h2]⟩
end Au
end
section
open Go.RowKit
theorem cell_at (w:World) (cs:List Value) (e:TypeId) (j:Nat) (u:Value) (h:cs[j]?=some u):(w.alloc (.cells cs.toArray e)).cell? ⟨w.heap.size,j,none⟩=some u:=by
 have:=new_cells w cs e j u h
 rwa [Addr.add_lit,Nat.zero_add] at this
namespace Au
def fine (n:Nat) (a:Arc):Prop:=0≤a.lo∧a.hi≤255∧a.lo≤a.hi∧0≤a.to∧a.to<n
instance (n:Nat) (a:Arc):Decidable (fine n a):=by unfold fine;exact inferInstance
def fines (n:Nat) (l:List Arc):Bool:=decide (∀a∈l,fine n a)
theorem fines_true {n:Nat} {l:List Arc} (h:∀a∈l,fine n a):fines n l=true:=decide_eq_true h
theorem fines_false {n:Nat} {l:List Arc} (h:¬ ∀a∈l,fine n a):fines n l=false:=decide_eq_false h
def rises:Int→List Arc→Prop
 | _,[]=>True
 | x,a :: r=>x<a.lo∧rises a.hi r
instance rises_dec:(x:Int)→(l:List Arc)→Decidable (rises x l)
 | _,[]=>isTrue trivial
 | x,a :: r=>by
  unfold rises
  have:=rises_dec a.hi r
  exact inferInstance
theorem row_fine (n:Nat) (l:List Arc):Row n 256 l↔(∀a∈l,fine n a)∧rises (-1) l:=by
 have key:∀(l:List Arc) (x:Int),(∀a∈l,fine n a)→(rises x l↔(∀h:0<l.length,x<l[0].lo)∧∀k (h:k+1<l.length),l[k].hi<l[k+1].lo):=by
  intro l
  induction l with
  | nil=>intro x _;simp [rises]
  | cons a r ih=>
   intro x hf
   have:=ih a.hi (fun b hb=>hf b (List.mem_cons_of_mem _ hb))
   constructor
   ·rintro ⟨h1,h2⟩
    obtain ⟨k1,k2⟩:=this.1 h2
    refine ⟨fun _=>h1,fun k hk=>?_⟩
    cases k with
    | zero=>exact k1 (by simpa using hk)
    | succ k=>exact k2 k (by simpa using hk)
   ·rintro ⟨h1,h2⟩
    refine ⟨h1 (by simp),this.2 ⟨fun h=>?_,fun k hk=>?_⟩⟩
    ·exact h2 0 (by simpa using h)
    ·exact h2 (k+1) (by simpa using hk)
 constructor
 ·intro h
  have hf:∀a∈l,fine n a:=fun a ha=>by
   obtain ⟨k,hk,rfl⟩:=List.getElem_of_mem ha
   have:=h.1 k hk
   unfold fine
   omega
  refine ⟨hf,(key l (-1) hf).2 ⟨fun h0=>?_,h.2⟩⟩
  have:=h.1 0 h0
  omega
 ·rintro ⟨hf,hr⟩
  obtain ⟨_,h2⟩:=(key l (-1) hf).1 hr
  refine ⟨fun k hk=>?_,h2⟩
  have:=hf l[k] (List.getElem_mem hk)
  unfold fine at this
  omega
end Au
theorem isPlace_any (w:World) (i n:Int):
  Calls Tryz.prog 53 #[.int .i64 i,.int .i64 n] w fun e w'=>e=.returned (.bool (decide (0≤i∧i<n)))∧w=w':=by
 by_cases h1:0≤i
 ·by_cases h2:i<n
  ·have e:decide (0≤i∧i<n)=true:=decide_eq_true ⟨h1,h2⟩
   rw [e]
   have d1:decide (0≤i)=true:=decide_eq_true h1
   clear e
   go_enter Tryz.func53,Tryz.ntmps53
   go_wp2_with fail
   go_ret
   exact ⟨rfl,rfl⟩
  ·have e:decide (0≤i∧i<n)=false:=decide_eq_false fun h=>h2 h.2
   rw [e]
   have d1:decide (0≤i)=true:=decide_eq_true h1
   clear e
   go_enter Tryz.func53,Tryz.ntmps53
   go_wp2_with fail
   go_ret
   exact ⟨rfl,rfl⟩
 ·have e:decide (0≤i∧i<n)=false:=decide_eq_false fun h=>h1 h.1
  rw [e]
  have d1:decide (0≤i)=false:=decide_eq_false h1
  clear e
  go_enter Tryz.func53,Tryz.ntmps53
  go_wp2_with fail
  go_ret
  exact ⟨rfl,rfl⟩
end
section
open Go.RowKit
theorem mayBe_any (F:Nat→Prop) (w:World) (v:Value) (l:List Au.Arc) (n:Nat) (hv:ArcS F w v l):
  Calls Tryz.prog 51 #[v,.int .i64 (n:Int)] w fun e w'=>e=.returned (.bool (Au.fines n l))∧Below w.heap.size w w':=by
 obtain ⟨a,cap,rfl,hc1,hc2,hc⟩:=hv
 have hgood:(∀a∈l,Au.fine n a)→Au.fines n l=true:=fun h=>Au.fines_true h
 have hbad:∀k (hk:k<l.length),¬Au.fine n l[k]→Au.fines n l=false:=fun k hk h=>Au.fines_false fun e=>h (e _ (List.getElem_mem hk))
 generalize Au.fines n l=r at *
 obtain ⟨m,hm⟩:∃m,m=l.length:=⟨_,rfl⟩
 have hm2:m≤9223372036854775807:=by omega
 have HM:=lh hm
 have HC:=lh hc
 have HG:=lh hgood
 have HB:=lh hbad
 rw [←hm]
 clear hc hc1 hgood hbad hm
 go_enter Tryz.func51,Tryz.ntmps51
 go_wp2_with fail
 go_loopg [9] m (fun gg vi wx=>∃i:Nat,i≤m∧gg=m-i∧vi=.int .i64 i∧Hid (∀j (h:j<l.length),j<i→Au.fine n l[j])∧Below w.heap.size w wx)
 case atStart=>exact ⟨0,Nat.zero_le _,rfl,rfl,fun j _ h=>by omega,Below.refl _ _⟩
 case round=>
  obtain ⟨k,hk,rfl,rfl,hS,hbel⟩:=hrel
  by_cases hkm:k<m
  ·have kl:k<l.length:=by rw [←HM.out];exact hkm
   obtain ⟨g2,o2,rfl,hg2,_,hcl2⟩:=HC.out (by omega)
   obtain ⟨d1,d2,d3⟩:=hcl2 k kl
   have e1:=(hbel.cell (p:=⟨g2,o2+k*3,none⟩) hg2).trans d1
   have e2:=(hbel.cell (p:=⟨g2,o2+k*3+1,none⟩) hg2).trans d2
   have e3:=(hbel.cell (p:=⟨g2,o2+k*3+2,none⟩) hg2).trans d3
   have hA:Hid (¬Au.fine n l[k]→r=false):=HB.out k kl
   have hst2:Hid (Au.fine n l[k]→∀j (h:j<l.length),j<k+1→Au.fine n l[j]):=fun h j hj h2=>by
    by_cases e:j=k
    ·subst e;exact h
    ·exact hS.out j hj (by omega)
   have j2:(k:Int)<(m:Int):=by omega
   have HBE:Hid (∀o,Below w.heap.size w (wr.alloc o)):=fun o=>hbel.alloc hbel.size o
   clear hcl2 d1 d2 d3 hS hbel
   generalize l[k]=x at *
   obtain ⟨lo,hi',to⟩:=x
   dsimp only at e1 e2 e3
   by_cases q1:lo<0
   ·have f1:decide (lo<0)=true:=decide_eq_true q1
    obtain rfl:r=false:=hA.out fun h=>by unfold Au.fine at h;dsimp only at h;omega
    clear hA hst2
    go_wp2_with fail
    go_ret
    exact ⟨rfl,HBE.out _⟩
   have f1:decide (lo<0)=false:=decide_eq_false q1
   by_cases q2:255<hi'
   ·have f2:decide (255<hi')=true:=decide_eq_true q2
    obtain rfl:r=false:=hA.out fun h=>by unfold Au.fine at h;dsimp only at h;omega
    clear hA hst2
    go_wp2_with fail
    go_ret
    exact ⟨rfl,HBE.out _⟩
   have f2:decide (255<hi')=false:=decide_eq_false q2
   by_cases q3:hi'<lo
   ·have f3:decide (hi'<lo)=true:=decide_eq_true q3
    obtain rfl:r=false:=hA.out fun h=>by unfold Au.fine at h;dsimp only at h;omega
    clear hA hst2
    go_wp2_with fail
    go_ret
    exact ⟨rfl,HBE.out _⟩
   have f3:decide (hi'<lo)=false:=decide_eq_false q3
   have HP:Hid (∀W,Calls Tryz.prog 53 #[.int .i64 to,.int .i64 (n:Int)] W fun e w'=>e=.returned (.bool (decide (0≤to∧to<(n:Int))))∧W=w'):=fun W=>isPlace_any W to n
   by_cases q4:0≤to∧to<(n:Int)
   ·have f4:decide (0≤to∧to<(n:Int))=true:=decide_eq_true q4
    rw [f4] at HP
    have hS2:=hst2.out (by unfold Au.fine;dsimp only;omega)
    have HS2:=lh hS2
    clear hA hst2 hS2 f4
    go_wp2_with (go_at_call 53;refine (HP.out _).mono ?_;rintro e w' ⟨rfl,rfl⟩)
    go_roundg (m-(k+1))
    case rel=>exact ⟨k+1,by omega,rfl,by go_num,HS2,HBE.out _⟩
    case measure=>omega
   ·have f4:decide (0≤to∧to<(n:Int))=false:=decide_eq_false q4
    rw [f4] at HP
    obtain rfl:r=false:=hA.out fun h=>by unfold Au.fine at h;dsimp only at h;omega
    clear hA hst2 f4 q4
    go_wp2_with (go_at_call 53;refine (HP.out _).mono ?_;rintro e w' ⟨rfl,rfl⟩)
    go_ret
    exact ⟨rfl,HBE.out _⟩
  ·obtain rfl:k=m:=by omega
   obtain rfl:r=true:=HG.out fun a ha=>by
    obtain ⟨j,hj,rfl⟩:=List.getElem_of_mem ha
    exact hS.out j hj (by rw [HM.out];exact hj)
   have HBE:=lh hbel
   clear hS hbel
   go_wp2_with fail
   go_ret
   exact ⟨rfl,HBE.out⟩
theorem rise_any (F:Nat→Prop) (w:World) (v:Value) (l:List Au.Arc) (hv:ArcS F w v l):
  Calls Tryz.prog 52 #[v] w fun e w'=>e=.returned (.bool (decide (Au.rises (-1) l)))∧Below w.heap.size w w':=by
 obtain ⟨a,cap,rfl,hc1,hc2,hc⟩:=hv
 obtain ⟨r,hr⟩:∃r,decide (Au.rises (-1) l)=r:=⟨_,rfl⟩
 obtain ⟨m,hm⟩:∃m,m=l.length:=⟨_,rfl⟩
 have hm2:m≤9223372036854775807:=by omega
 have HM:=lh hm
 have HC:=lh hc
 have HR:Hid (decide (Au.rises (-1) (l.drop 0))=r):=hr
 rw [hr,←hm]
 clear hc hc1 hm hr
 go_enter Tryz.func52,Tryz.ntmps52
 go_wp2_with fail
 go_loopg [3,8] m (fun gg va vi wx=>∃(i:Nat) (x:Int),i≤m∧gg=m-i∧va=.int .i64 x∧vi=.int .i64 i∧Hid (decide (Au.rises x (l.drop i))=r)∧Below w.heap.size w wx)
 case atStart=>exact ⟨0,-1,Nat.zero_le _,rfl,rfl,rfl,HR,Below.refl _ _⟩
 case round=>
  obtain ⟨k,x,hk,rfl,rfl,rfl,hS,hbel⟩:=hrel
  by_cases hkm:k<m
  ·have kl:k<l.length:=by rw [←HM.out];exact hkm
   obtain ⟨g2,o2,rfl,hg2,_,hcl2⟩:=HC.out (by omega)
   obtain ⟨d1,d2,d3⟩:=hcl2 k kl
   have e1:=(hbel.cell (p:=⟨g2,o2+k*3,none⟩) hg2).trans d1
   have e2:=(hbel.cell (p:=⟨g2,o2+k*3+1,none⟩) hg2).trans d2
   have e3:=(hbel.cell (p:=⟨g2,o2+k*3+2,none⟩) hg2).trans d3
   have hA:Hid (decide (x<l[k].lo∧Au.rises l[k].hi (l.drop (k+1)))=r):=by
    have h:=hS.out
    rw [List.drop_eq_getElem_cons kl] at h
    exact h
   have j2:(k:Int)<(m:Int):=by omega
   have HBE:Hid (∀o,Below w.heap.size w (wr.alloc o)):=fun o=>hbel.alloc hbel.size o
   clear hcl2 d1 d2 d3 hS hbel
   generalize l[k]=y at *
   obtain ⟨lo,hi',to⟩:=y
   dsimp only at e1 e2 e3 hA
   by_cases q1:lo≤x
   ·obtain rfl:false=r:=by
     have h:=hA.out
     rw [decide_eq_false (fun e=>by have:=e.1;omega)] at h
     exact h
    clear hA
    go_wp2_with fail
    go_ret
    exact ⟨rfl,HBE.out _⟩
   ·have hB:Hid (decide (Au.rises hi' (l.drop (k+1)))=r):=by
     have h:=hA.out
     by_cases q:Au.rises hi' (l.drop (k+1))
     ·rw [decide_eq_true (⟨by omega,q⟩:x<lo∧Au.rises hi' (l.drop (k+1)))] at h
      show _=_
      rw [←h]
      exact decide_eq_true q
     ·rw [decide_eq_false (fun e=>q e.2)] at h
      show _=_
      rw [←h]
      exact decide_eq_false q
    clear hA
    go_wp2_with fail
    go_roundg (m-(k+1))
    case rel=>exact ⟨k+1,_,by omega,rfl,rfl,by go_num,hB,HBE.out _⟩
    case measure=>omega
  ·obtain rfl:k=m:=by omega
   obtain rfl:true=r:=by
    have h:=hS.out
    rw [List.drop_of_length_le (by rw [←HM.out];exact Nat.le_refl _)] at h
    rw [←h]
    exact (decide_eq_true trivial).symm
   have HBE:=lh hbel
   clear hS hbel
   go_wp2_with fail
   go_ret
   exact ⟨rfl,HBE.out⟩
end
section
open Go.RowKit
theorem checkP_any (F:Nat→Prop) (w:World) (v:Value) (d:List Au.St) (hv:StS F w v d):
  Calls Tryz.prog 29 #[v] w fun e w'=>e=.returned (.int .i64 (Au.check d))∧Below w.heap.size w w':=by
 have hMB:Hid (∀i (h:i<d.length) W va,Below w.heap.size w W→ArcS F W va d[i].arcs→Calls Tryz.prog 51 #[va,.int .i64 (d.length:Int)] W fun e w'=>e=.returned (.bool (Au.fines d.length d[i].arcs))∧Below W.heap.size W w'):=fun i h W va hb ha=>mayBe_any F W va _ _ ha
 have hRI:Hid (∀i (h:i<d.length) W va,Below w.heap.size w W→ArcS F W va d[i].arcs→Calls Tryz.prog 52 #[va] W fun e w'=>e=.returned (.bool (decide (Au.rises (-1) d[i].arcs)))∧Below W.heap.size W w'):=fun i h W va hb ha=>rise_any F W va _ ha
 obtain ⟨a,cap,rfl,hc1,hc2,hc⟩:=hv
 by_cases h0:d.length=0
 ·have hr:Au.check d=1:=by unfold Au.check;rw [if_pos h0]
  rw [hr]
  have i0:((d.length:Int)==0)=true:=beq_iff_eq.2 (by omega)
  clear hr hc h0 hMB hRI
  go_enter Tryz.func29,Tryz.ntmps29
  go_wp2_with fail
  go_ret
  exact ⟨rfl,Below.refl _ _⟩
 have i0:((d.length:Int)==0)=false:=beq_eq_false_iff_ne.2 (by omega)
 by_cases h1:20000<d.length
 ·have hr:Au.check d=8:=by unfold Au.check;rw [if_neg h0,if_pos h1]
  rw [hr]
  have i1:(20000:Int)<(d.length:Int):=by omega
  clear hr hc h0 h1 hMB hRI
  go_enter Tryz.func29,Tryz.ntmps29
  go_wp2_with fail
  go_ret
  exact ⟨rfl,Below.refl _ _⟩
 have i1:¬(20000:Int)<(d.length:Int):=by omega
 obtain ⟨g,o,rfl,hg,hF,hcl⟩:=hc (by omega)
 have hok:∀i (h:i<d.length),Au.okAt d.length d i↔(∀a∈d[i].arcs,Au.fine d.length a)∧Au.rises (-1) d[i].arcs:=fun i h=>by
  rw [Au.okAt_of h,Au.row_iff,Au.row_fine]
 have hgood:(∀i,i<d.length→Au.okAt d.length d i)→Au.check d=0:=fun h=>by unfold Au.check;rw [if_neg h0,if_neg h1,if_pos h]
 have hbad:∀i,i<d.length→¬Au.okAt d.length d i→Au.check d=3:=fun i hi h=>by unfold Au.check;rw [if_neg h0,if_neg h1,if_neg (fun e=>h (e i hi))]
 generalize Au.check d=r at *
 obtain ⟨n,hn⟩:∃n,n=d.length:=⟨_,rfl⟩
 have hn2:n≤20000:=by omega
 rw [←hn] at hgood hbad
 have HN:=lh hn
 have HC:=lh hcl
 have HG:=lh hgood
 have HB:=lh hbad
 have HOK:=lh hok
 rw [←hn] at i0 i1 ⊢
 clear hc hcl hgood hbad h0 h1 hn hc1 hok
 go_enter Tryz.func29,Tryz.ntmps29
 go_wp2_with fail
 go_loopg [15] n (fun gg vi wx=>∃i:Nat,i≤n∧gg=n-i∧vi=.int .i64 i∧Hid (∀j,j<i→Au.okAt n d j)∧Below w.heap.size w wx)
 case atStart=>exact ⟨0,Nat.zero_le _,rfl,rfl,fun j h=>by omega,Below.refl _ _⟩
 case round=>
  obtain ⟨i,hi,rfl,rfl,hS,hbel⟩:=hrel
  by_cases hin:i<n
  ·have j1:(i:Int)<(n:Int):=by omega
   have hid:i<d.length:=by rw [←HN.out];exact hin
   obtain ⟨f0,va,c1,hva⟩:=HC.out i hid
   obtain ⟨a2,cap2,rfl,_⟩:=id hva
   obtain ⟨ln,hln⟩:∃ln,d[i].arcs.length=ln:=⟨_,rfl⟩
   rw [hln] at c1 hva
   have e1:=(hbel.cell (p:=⟨g,o+i*2+1,none⟩) hg).trans c1
   have e0:=(hbel.cell (p:=⟨g,o+i*2,none⟩) hg).trans f0
   have hHB:Hid (¬Au.okAt n d i→r=3):=HB.out i hin
   have hst:Hid (Au.okAt n d i→∀j,j<i+1→Au.okAt n d j):=fun h j hj=>by
    by_cases e:j=i
    ·subst e;exact h
    ·exact hS.out j (by omega)
   have hoki:Hid (Au.okAt n d i↔(∀a∈d[i].arcs,Au.fine n a)∧Au.rises (-1) d[i].arcs):=by rw [HN.out];exact HOK.out i hid
   have HBE:=lh hbel
   have hm1:Hid (∀W,Below w.heap.size w W→Calls Tryz.prog 51 #[.slice a2 ln cap2,.int .i64 (n:Int)] W fun e w'=>e=.returned (.bool (Au.fines n d[i].arcs))∧Below W.heap.size W w'):=fun W hb=>by
    have:=hMB.out i hid W _ hb (hva.below hb)
    rwa [←HN.out] at this
   have hm2:Hid (∀W,Below w.heap.size w W→Calls Tryz.prog 52 #[.slice a2 ln cap2] W fun e w'=>e=.returned (.bool (decide (Au.rises (-1) d[i].arcs)))∧Below W.heap.size W w'):=fun W hb=>hRI.out i hid W _ hb (hva.below hb)
   have hB1:Hid (Below w.heap.size w (wr.alloc (.cells #[.bool d[i].fin,.slice a2 ln cap2] 61))):=hbel.alloc hbel.size _
   clear hS hbel c1 hva f0 hln
   by_cases q1:∀a∈d[i].arcs,Au.fine n a
   ·have f1:Au.fines n d[i].arcs=true:=Au.fines_true q1
    rw [f1] at hm1
    by_cases q2:Au.rises (-1) d[i].arcs
    ·have f2:decide (Au.rises (-1) d[i].arcs)=true:=decide_eq_true q2
     rw [f2] at hm2
     have HS:=lh (hst.out (hoki.out.2 ⟨q1,q2⟩))
     clear f1 f2 hst hoki q1 q2 hHB
     generalize d[i].fin=fi at *
     have r0:(wr.alloc (.cells #[.bool fi,.slice a2 ln cap2] 61)).cell? ⟨wr.heap.size,1,none⟩=some (.slice a2 ln cap2):=cell_at wr [.bool fi,.slice a2 ln cap2] _ 1 _ rfl
     go_wp2_with (first | (go_at_call 51;refine (hm1.out _ hB1.out).mono ?_;rintro e w2 ⟨rfl,hb⟩;have hB2:Hid (Below w.heap.size w w2):=chain hB1.out hb;have r1:=(hb.cell (p:=⟨wr.heap.size,1,none⟩) (by simp)).trans r0;clear hb) | (go_at_call 52;refine (hm2.out _ hB2.out).mono ?_;rintro e w3 ⟨rfl,hb3⟩;have hB3:Hid (Below w.heap.size w w3):=chain hB2.out hb3;clear hb3))
     go_roundg (n-(i+1))
     case rel=>exact ⟨i+1,by omega,rfl,by go_num,HS,hB3.out⟩
     case measure=>omega
    ·have f2:decide (Au.rises (-1) d[i].arcs)=false:=decide_eq_false q2
     rw [f2] at hm2
     obtain rfl:=hHB.out fun h=>q2 (hoki.out.1 h).2
     clear f1 f2 hst hoki q1 q2 hHB
     generalize d[i].fin=fi at *
     have r0:(wr.alloc (.cells #[.bool fi,.slice a2 ln cap2] 61)).cell? ⟨wr.heap.size,1,none⟩=some (.slice a2 ln cap2):=cell_at wr [.bool fi,.slice a2 ln cap2] _ 1 _ rfl
     go_wp2_with (first | (go_at_call 51;refine (hm1.out _ hB1.out).mono ?_;rintro e w2 ⟨rfl,hb⟩;have hB2:Hid (Below w.heap.size w w2):=chain hB1.out hb;have r1:=(hb.cell (p:=⟨wr.heap.size,1,none⟩) (by simp)).trans r0;clear hb) | (go_at_call 52;refine (hm2.out _ hB2.out).mono ?_;rintro e w3 ⟨rfl,hb3⟩;have hB3:Hid (Below w.heap.size w w3):=chain hB2.out hb3;clear hb3))
     go_ret
     exact ⟨rfl,hB3.out⟩
   ·have f1:Au.fines n d[i].arcs=false:=Au.fines_false q1
    rw [f1] at hm1
    obtain rfl:=hHB.out fun h=>q1 (hoki.out.1 h).1
    clear f1 hst hoki q1 hHB hm2
    generalize d[i].fin=fi at *
    have r0:(wr.alloc (.cells #[.bool fi,.slice a2 ln cap2] 61)).cell? ⟨wr.heap.size,1,none⟩=some (.slice a2 ln cap2):=cell_at wr [.bool fi,.slice a2 ln cap2] _ 1 _ rfl
    go_wp2_with (go_at_call 51;refine (hm1.out _ hB1.out).mono ?_;rintro e w2 ⟨rfl,hb⟩;have hB2:Hid (Below w.heap.size w w2):=chain hB1.out hb;clear hb)
    go_ret
    exact ⟨rfl,hB2.out⟩
  ·obtain rfl:i=n:=by omega
   obtain rfl:=HG.out hS.out
   have HBE:=lh hbel
   clear hS hbel
   go_wp2_with fail
   go_ret
   exact ⟨rfl,HBE.out⟩
theorem stepP_any (F:Nat→Prop) (w:World) (v:Value) (d:List Au.St) (s:Int) (c:Nat) (hc8:c<256) (hv:StS F w v d):
  Calls Tryz.prog 31 #[v,.int .i64 s,.int .u8 (c:Int)] w fun e w'=>e=.returned (.int .i64 (Au.step d s c))∧Below w.heap.size w w':=by
 have HP:Hid (∀W,Calls Tryz.prog 53 #[.int .i64 s,.int .i64 (d.length:Int)] W fun e w'=>e=.returned (.bool (decide (0≤s∧s<(d.length:Int))))∧W=w'):=fun W=>isPlace_any W s _
 obtain ⟨a,cap,rfl,hc1,hc2,hc⟩:=hv
 by_cases hs:0≤s∧s<(d.length:Int)
 rotate_left
 ·have hr:Au.step d s c = -1:=by unfold Au.step;rw [if_pos (by omega)]
  rw [hr]
  have f4:decide (0≤s∧s<(d.length:Int))=false:=decide_eq_false hs
  rw [f4] at HP
  clear hr hc f4 hs
  go_enter Tryz.func31,Tryz.ntmps31
  go_wp2_with (go_at_call 53;refine (HP.out _).mono ?_;rintro e w' ⟨rfl,rfl⟩)
  go_ret
  exact ⟨rfl,Below.refl _ _⟩
 have f4:decide (0≤s∧s<(d.length:Int))=true:=decide_eq_true hs
 rw [f4] at HP
 obtain ⟨i,rfl⟩:∃i:Nat,s=(i:Int):=⟨s.toNat,by omega⟩
 have hi:i<d.length:=by omega
 obtain ⟨g,o,rfl,hg,hF,hcl⟩:=hc (by omega)
 obtain ⟨_,va,c1,hva⟩:=hcl i hi
 have hr:Au.step d i c=(Au.look d[i].arcs c).getD (-1):=by
  unfold Au.step
  rw [if_neg (by omega),Int.toNat_natCast,List.getElem?_eq_getElem hi]
 rw [hr]
 generalize d[i].arcs=l at *
 obtain ⟨a2,cap2,rfl,hd1,hd2,hd⟩:=hva
 obtain ⟨m,hm⟩:∃m,m=l.length:=⟨_,rfl⟩
 obtain ⟨r,hr2⟩:∃r,(Au.look l c).getD (-1)=r:=⟨_,rfl⟩
 have HM:=lh hm
 have HR:=lh hr2
 have HD:=lh hd
 rw [hr2]
 rw [←hm] at c1
 have m2:m≤9223372036854775807:=by omega
 have i1:(i:Int)<(d.length:Int):=by omega
 have cw:IntKind.i64.wrap ((c:Nat):Int)=(c:Int):=IntWalk.i64_in _ (by omega)
 have cw2:wrap64 ((c:Nat):Int)=(c:Int):=IntWalk.wrap64_in _ (by omega)
 clear hr hr2 hcl hc hm hd hd1 hd2 f4 hs
 go_enter Tryz.func31,Tryz.ntmps31
 go_wp2_with (go_at_call 53;refine (HP.out _).mono ?_;rintro e w' ⟨rfl,rfl⟩)
 go_loopg [20] m (fun gg vk wx=>∃k:Nat,k≤m∧gg=m-k∧vk=.int .i64 k∧Hid ((Au.look (l.drop k) c).getD (-1)=r)∧Below w.heap.size w wx)
 case atStart=>exact ⟨0,Nat.zero_le _,rfl,rfl,HR.out,Below.refl _ _⟩
 case round=>
  obtain ⟨k,hk,rfl,rfl,hS,hbel⟩:=hrel
  by_cases hkm:k<m
  ·have kl:k<l.length:=by rw [←HM.out];exact hkm
   obtain ⟨g2,o2,rfl,hg2,_,hcl2⟩:=HD.out (by omega)
   obtain ⟨d1,d2,d3⟩:=hcl2 k kl
   have e1:=(hbel.cell (p:=⟨g2,o2+k*3,none⟩) hg2).trans d1
   have e2:=(hbel.cell (p:=⟨g2,o2+k*3+1,none⟩) hg2).trans d2
   have e3:=(hbel.cell (p:=⟨g2,o2+k*3+2,none⟩) hg2).trans d3
   have hL:=hS.out
   rw [Au.look_drop l k kl] at hL
   have HL:=lh hL
   have j1:(k:Int)<(m:Int):=by omega
   clear hL hcl2 d1 d2 d3 hS
   generalize l[k]=x at *
   obtain ⟨lo,hi,to⟩:=x
   dsimp only at e1 e2 e3 HL
   have HBE:=lh hbel
   clear hbel
   by_cases l1:lo≤(c:Int)
   ·have b1:decide (lo≤(c:Int))=true:=decide_eq_true l1
    by_cases l2:(c:Int)≤hi
    ·have hr:to=r:=by
      have h:=HL.out
      rw [if_pos ⟨l1,l2⟩] at h
      exact h
     subst hr
     have b2:decide ((c:Int)≤hi)=true:=decide_eq_true l2
     go_wp2_with fail
     go_ret
     exact ⟨rfl,HBE.out.alloc HBE.out.size _⟩
    ·have hst:Hid ((Au.look (l.drop (k+1)) c).getD (-1)=r):=by
      have h:=HL.out
      rw [if_neg (fun e=>l2 e.2)] at h
      exact h
     have b2:decide ((c:Int)≤hi)=false:=decide_eq_false l2
     clear HL
     go_wp2_with fail
     go_roundg (m-(k+1))
     case rel=>exact ⟨k+1,by omega,rfl,by go_num,hst,HBE.out.alloc HBE.out.size _⟩
     case measure=>omega
   ·have hst:Hid ((Au.look (l.drop (k+1)) c).getD (-1)=r):=by
     have h:=HL.out
     rw [if_neg (fun e=>l1 e.1)] at h
     exact h
    have b1:decide (lo≤(c:Int))=false:=decide_eq_false l1
    clear HL
    go_wp2_with fail
    go_roundg (m-(k+1))
    case rel=>exact ⟨k+1,by omega,rfl,by go_num,hst,HBE.out.alloc HBE.out.size _⟩
    case measure=>omega
  ·obtain rfl:k=m:=by omega
   have hr:-1=r:=by
    have h:=hS.out
    rw [List.drop_of_length_le (by rw [←HM.out];exact Nat.le_refl _)] at h
    exact h
   subst hr
   have HBE:=lh hbel
   clear hS hbel
   go_wp2_with fail
   go_ret
   exact ⟨rfl,HBE.out⟩
end
section
open Go.RowKit
namespace Au
def fineS (n:Nat) (s:Lo):Prop:=(∀a∈s.arcs,fine n a)∧∀f∈s.free,0≤f∧f<(n:Int)
theorem may_fine (d:List Lo):May d↔0<d.length∧∀i (h:i<d.length),fineS d.length d[i]:=by
 constructor
 ·intro h
  refine ⟨h.pos,fun i hi=>⟨fun a ha=>?_,fun f hf=>h.free i hi f hf⟩⟩
  have:=h.arc i hi a ha
  unfold fine
  omega
 ·rintro ⟨h0,h⟩
  refine ⟨h0,fun i hi a ha=>?_,fun i hi f hf=>(h i hi).2 f hf⟩
  have:=(h i hi).1 a ha
  unfold fine at this
  omega
end Au
theorem isLoose_any (F:Nat→Prop) (w:World) (u:Value) (d:List Au.Lo) (hu:LoS F w u d):
  Calls Tryz.prog 102 #[u] w fun e w'=>e=.returned (.bool (Au.may d))∧Below w.heap.size w w':=by
 have hMB:Hid (∀i (h:i<d.length) W va,Below w.heap.size w W→ArcS F W va d[i].arcs→Calls Tryz.prog 51 #[va,.int .i64 (d.length:Int)] W fun e w'=>e=.returned (.bool (Au.fines d.length d[i].arcs))∧Below W.heap.size W w'):=fun i h W va hb ha=>mayBe_any F W va _ _ ha
 obtain ⟨b,cap',rfl,hd1,hd2,hd⟩:=hu
 have hgood:0<d.length→(∀i (h:i<d.length),Au.fineS d.length d[i])→true=Au.may d:=fun h0 h=>((Au.may_true d).2 ((Au.may_fine d).2 ⟨h0,h⟩)).symm
 have hbad:∀i (h:i<d.length),¬Au.fineS d.length d[i]→false=Au.may d:=fun i hi h=>by
  symm
  rw [←Bool.not_eq_true,Au.may_true,Au.may_fine]
  exact fun e=>h (e.2 i hi)
 have hnone:d.length=0→false=Au.may d:=fun h=>by
  symm
  rw [←Bool.not_eq_true,Au.may_true,Au.may_fine]
  exact fun e=>by omega
 generalize Au.may d=r at *
 obtain ⟨n,hn⟩:∃n,n=d.length:=⟨_,rfl⟩
 have hn2:n≤9223372036854775807:=by omega
 have HD:=lh hd
 have HN:=lh hn
 have HG:=lh hgood
 have HB:=lh hbad
 have H0:=lh hnone
 rw [←hn]
 clear hd hd1 hgood hbad hnone hn
 go_enter Tryz.func102,Tryz.ntmps102
 go_wp2_with fail
 go_loopg [9] n (fun gg vi wx=>∃i:Nat,i≤n∧gg=n-i∧vi=.int .i64 i∧Hid (∀j (h:j<d.length),j<i→Au.fineS d.length d[j])∧Below w.heap.size w wx)
 case atStart=>exact ⟨0,Nat.zero_le _,rfl,rfl,fun j _ h=>by omega,Below.refl _ _⟩
 case round=>
  obtain ⟨i,hi,rfl,rfl,hS,hbel⟩:=hrel
  by_cases hin:i<n
  ·have j1:(i:Int)<(n:Int):=by omega
   have hid:i<d.length:=by rw [←HN.out];exact hin
   obtain ⟨g,o,rfl,hg,_,hcl⟩:=HD.out (by omega)
   obtain ⟨c0,⟨va,c1,hva⟩,vf,c2,hvf⟩:=hcl i hid
   obtain ⟨a2,cap2,rfl,_⟩:=id hva
   obtain ⟨a3,cap3,rfl,hf1,hf2,hf3⟩:=id hvf
   obtain ⟨ln,hln⟩:∃ln,d[i].arcs.length=ln:=⟨_,rfl⟩
   obtain ⟨lf,hlf⟩:∃lf,d[i].free.length=lf:=⟨_,rfl⟩
   rw [hln] at c1 hva
   rw [hlf] at c2
   have e0:=(hbel.cell (p:=⟨g,o+i*3,none⟩) hg).trans c0
   have e1:=(hbel.cell (p:=⟨g,o+i*3+1,none⟩) hg).trans c1
   have e2:=(hbel.cell (p:=⟨g,o+i*3+2,none⟩) hg).trans c2
   have hHB:Hid (¬Au.fineS d.length d[i]→false=r):=HB.out i hid
   have hst:Hid (Au.fineS d.length d[i]→∀j (h:j<d.length),j<i+1→Au.fineS d.length d[j]):=fun h j hj h2=>by
    by_cases e:j=i
    ·subst e;exact h
    ·exact hS.out j hj (by omega)
   have HBE:=lh hbel
   have hm1:Hid (∀W,Below w.heap.size w W→Calls Tryz.prog 51 #[.slice a2 ln cap2,.int .i64 (n:Int)] W fun e w'=>e=.returned (.bool (Au.fines d.length d[i].arcs))∧Below W.heap.size W w'):=fun W hb=>by
    have:=hMB.out i hid W _ hb (hva.below hb)
    rw [←HN.out] at this ⊢
    exact this
   have hB1:Hid (Below w.heap.size w (wr.alloc (.cells #[.bool d[i].fin,.slice a2 ln cap2,.slice a3 lf cap3] 152))):=hbel.alloc hbel.size _
   have r0:(wr.alloc (.cells #[.bool d[i].fin,.slice a2 ln cap2,.slice a3 lf cap3] 152)).cell? ⟨wr.heap.size,2,none⟩=some (.slice a3 lf cap3):=cell_at wr [.bool d[i].fin,.slice a2 ln cap2,.slice a3 lf cap3] _ 2 _ rfl
   have HF3:=lh hf3
   have HLF:=lh hlf
   have hlf2:lf≤9223372036854775807:=by omega
   have hwr:w.heap.size≤wr.heap.size:=hbel.size
   clear hS hbel c1 c2 c0 hva hvf hln hcl hf3 hlf hf1
   by_cases q1:∀a∈d[i].arcs,Au.fine d.length a
   ·have f1:Au.fines d.length d[i].arcs=true:=Au.fines_true q1
    rw [f1] at hm1
    have hHB2:Hid (∀k (h:k<d[i].free.length),¬(0≤d[i].free[k]∧d[i].free[k]<(n:Int))→false=r):=fun k hk h=>hHB.out fun e=>h (by rw [HN.out];exact e.2 _ (List.getElem_mem hk))
    have hst2:Hid ((∀k (h:k<d[i].free.length),0≤d[i].free[k]∧d[i].free[k]<(n:Int))→∀j (h:j<d.length),j<i+1→Au.fineS d.length d[j]):=fun h=>hst.out ⟨q1,fun f hf=>by
     obtain ⟨k,hk,rfl⟩:=List.getElem_of_mem hf
     rw [←HN.out]
     exact h k hk⟩
    clear f1 hst q1 hHB
    generalize d[i].fin=fi at *
    generalize d[i].free=fr at *
    go_wp2_with (go_at_call 51;refine (hm1.out _ hB1.out).mono ?_;rintro e w2 ⟨rfl,hb⟩;have hB2:Hid (Below w.heap.size w w2):=chain hB1.out hb;have r1:=(hb.cell (p:=⟨wr.heap.size,2,none⟩) (by simp)).trans r0;clear hb)
    go_loopg [22] lf (fun gg vk wx=>∃k:Nat,k≤lf∧gg=lf-k∧vk=.int .i64 k∧Hid (∀j (h:j<fr.length),j<k→0≤fr[j]∧fr[j]<(n:Int))∧wx=w2)
    case atStart=>exact ⟨0,Nat.zero_le _,rfl,rfl,fun j _ h=>by omega,rfl⟩
    case round=>
     obtain ⟨k,hk,rfl,rfl,hT,rfl⟩:=hrel
     by_cases hkl:k<lf
     ·have k1:(k:Int)<(lf:Int):=by omega
      have kf:k<fr.length:=by rw [HLF.out];exact hkl
      obtain ⟨g3,o3,rfl,hg3,_,hcf⟩:=HF3.out (by omega)
      have f2:=(hB2.out.cell (p:=⟨g3,o3+k,none⟩) hg3).trans (hcf k kf)
      have hHB3:=lh (hHB2.out k kf)
      have hT2:Hid (0≤fr[k]∧fr[k]<(n:Int)→∀j (h:j<fr.length),j<k+1→0≤fr[j]∧fr[j]<(n:Int)):=fun h j hj h2=>by
       by_cases e:j=k
       ·subst e;exact h
       ·exact hT.out j hj (by omega)
      clear hT hcf
      have HP:Hid (Calls Tryz.prog 53 #[.int .i64 fr[k],.int .i64 (n:Int)] wr fun e w'=>e=.returned (.bool (decide (0≤fr[k]∧fr[k]<(n:Int))))∧wr=w'):=isPlace_any wr fr[k] n
      by_cases q4:0≤fr[k]∧fr[k]<(n:Int)
      ·have f4:decide (0≤fr[k]∧fr[k]<(n:Int))=true:=decide_eq_true q4
       rw [f4] at HP
       have HT:=lh (hT2.out q4)
       clear f4 q4 hT2 hHB3
       generalize fr[k]=fk at *
       go_wp2_with (go_at_call 53;refine HP.out.mono ?_;rintro e w' ⟨rfl,rfl⟩)
       go_roundg (lf-(k+1))
       case rel=>exact ⟨k+1,by omega,rfl,by go_num,HT,rfl⟩
       case measure=>omega
      ·have f4:decide (0≤fr[k]∧fr[k]<(n:Int))=false:=decide_eq_false q4
       rw [f4] at HP
       obtain rfl:=hHB3.out q4
       clear f4 q4 hT2 hHB3
       generalize fr[k]=fk at *
       go_wp2_with (go_at_call 53;refine HP.out.mono ?_;rintro e w' ⟨rfl,rfl⟩)
       go_ret
       exact ⟨rfl,hB2.out⟩
     ·obtain rfl:k=lf:=by omega
      have HT:=lh (hst2.out fun j hj=>hT.out j hj (by rw [←HLF.out];exact hj))
      clear hT
      go_wp2_with fail
      go_roundg (n-(i+1))
      case rel=>exact ⟨i+1,by omega,rfl,by go_num,HT,hB2.out⟩
      case measure=>omega
   ·have f1:Au.fines d.length d[i].arcs=false:=Au.fines_false q1
    rw [f1] at hm1
    obtain rfl:=hHB.out fun h=>q1 h.1
    clear f1 hst q1 hHB
    generalize d[i].fin=fi at *
    go_wp2_with (go_at_call 51;refine (hm1.out _ hB1.out).mono ?_;rintro e w2 ⟨rfl,hb⟩;have hB2:Hid (Below w.heap.size w w2):=chain hB1.out hb;clear hb)
    go_ret
    exact ⟨rfl,hB2.out⟩
  ·obtain rfl:i=n:=by omega
   have HBE:=lh hbel
   by_cases h0:i=0
   ·obtain rfl:=H0.out (by rw [←HN.out];exact h0)
    have j0:¬(0:Int)<(i:Int):=by omega
    clear hS hbel
    go_wp2_with fail
    go_ret
    exact ⟨rfl,HBE.out⟩
   ·obtain rfl:=HG.out (by rw [←HN.out];omega) fun j hj=>hS.out j hj (by rw [HN.out];exact hj)
    have j0:(0:Int)<(i:Int):=by omega
    have d0:decide (0<i)=true:=decide_eq_true (by omega)
    clear hS hbel h0
    go_wp2_with fail
    go_ret
    exact ⟨rfl,HBE.out⟩
end
section
open Go.RowKit
def RowsS (F:Nat→Prop) (w:World) (v:Value) (L:List (List Au.Arc)):Prop:=
 ∃a cap,v=.slice a L.length cap∧L.length≤cap∧cap≤9223372036854775807∧(0<L.length→∃g o,a=some ⟨g,o,none⟩∧g<w.heap.size∧F g ∧
  ∀j (_:j<L.length),∃va,w.cell? ⟨g,o+j,none⟩=some va∧ArcS F w va L[j])
theorem RowsS.keep {F:Nat→Prop} {w w':World} {v:Value} {L:List (List Au.Arc)} (h:RowsS F w v L) (hs:w.heap.size≤w'.heap.size) (e:∀g,F g→g<w.heap.size→w'.heap[g]?=w.heap[g]?):RowsS F w' v L:=by
 obtain ⟨a,cap,h1,h2,h3,h4⟩:=h
 refine ⟨a,cap,h1,h2,h3,fun h0=>?_⟩
 obtain ⟨g,o,h5,h6,h7,h8⟩:=h4 h0
 have hb:=e g h7 h6
 refine ⟨g,o,h5,Nat.lt_of_lt_of_le h6 hs,h7,fun j hj=>?_⟩
 obtain ⟨va,a2,a3⟩:=h8 j hj
 exact ⟨va,(cell_same hb).trans a2,a3.keep hs e⟩
theorem RowsS.below {F:Nat→Prop} {w w':World} {v:Value} {L:List (List Au.Arc)} (h:RowsS F w v L) (hb:Below w.heap.size w w'):RowsS F w' v L:=h.keep hb.size fun g _ hg=>hb.block g hg
theorem RowsS.wide {F G:Nat→Prop} {w:World} {v:Value} {L:List (List Au.Arc)} (h:RowsS F w v L) (hm:∀g,g<w.heap.size→F g→G g):RowsS G w v L:=by
 obtain ⟨a,cap,h1,h2,h3,h4⟩:=h
 refine ⟨a,cap,h1,h2,h3,fun h0=>?_⟩
 obtain ⟨g,o,h5,h6,h7,h8⟩:=h4 h0
 refine ⟨g,o,h5,h6,hm g h6 h7,fun j hj=>?_⟩
 obtain ⟨va,a2,a3⟩:=h8 j hj
 exact ⟨va,a2,a3.wide hm⟩
def StrS (F:Nat→Prop) (w:World) (v:Value) (L:List Au.Strch):Prop:=
 ∃a cap,v=.slice a L.length cap∧L.length≤cap∧cap≤9223372036854775807∧(0<L.length→∃g o,a=some ⟨g,o,none⟩∧g<w.heap.size∧F g ∧
  ∀j (_:j<L.length),w.cell? ⟨g,o+j*3,none⟩=some (.int .i64 (L[j].lo:Int))∧w.cell? ⟨g,o+j*3+1,none⟩=some (.int .i64 (L[j].hi:Int))∧∃vt,w.cell? ⟨g,o+j*3+2,none⟩=some vt∧NumS F w vt L[j].to)
theorem StrS.keep {F:Nat→Prop} {w w':World} {v:Value} {L:List Au.Strch} (h:StrS F w v L) (hs:w.heap.size≤w'.heap.size) (e:∀g,F g→g<w.heap.size→w'.heap[g]?=w.heap[g]?):StrS F w' v L:=by
 obtain ⟨a,cap,h1,h2,h3,h4⟩:=h
 refine ⟨a,cap,h1,h2,h3,fun h0=>?_⟩
 obtain ⟨g,o,h5,h6,h7,h8⟩:=h4 h0
 have hb:=e g h7 h6
 refine ⟨g,o,h5,Nat.lt_of_lt_of_le h6 hs,h7,fun j hj=>?_⟩
 obtain ⟨b1,b2,va,a2,a3⟩:=h8 j hj
 exact ⟨(cell_same hb).trans b1,(cell_same hb).trans b2,va,(cell_same hb).trans a2,a3.keep hs e⟩
theorem NumS.wide {F G:Nat→Prop} {w:World} {v:Value} {l:List Int} (h:NumS F w v l) (hm:∀g,g<w.heap.size→F g→G g):NumS G w v l:=by
 obtain ⟨a,cap,h1,h2,h3,h4⟩:=h
 refine ⟨a,cap,h1,h2,h3,fun h0=>?_⟩
 obtain ⟨g,o,h5,h6,h7,h8⟩:=h4 h0
 exact ⟨g,o,h5,h6,hm g h6 h7,h8⟩
namespace Au
def marks (A:List Arc) (x:Nat):Bool:=A.any (fun a=>decide (a.lo=(x:Int))||decide (a.hi+1=(x:Int)))
theorem marks_snoc (A:List Arc) (a:Arc) (x:Nat):marks (A++[a]) x=(marks A x||(decide (a.lo=(x:Int))||decide (a.hi+1=(x:Int)))):=by
 unfold marks
 rw [List.any_append]
 simp
theorem marks_lo {A:List Arc} {a:Arc} (h:a∈A) (h0:0≤a.lo):marks A a.lo.toNat=true:=by
 unfold marks
 rw [List.any_eq_true]
 refine ⟨a,h,?_⟩
 have:a.lo=((a.lo.toNat:Nat):Int):=by omega
 simp only [Bool.or_eq_true,decide_eq_true_eq]
 exact .inl this
theorem marks_hi {A:List Arc} {a:Arc} (h:a∈A) (h0:0≤a.hi):marks A (a.hi.toNat+1)=true:=by
 unfold marks
 rw [List.any_eq_true]
 refine ⟨a,h,?_⟩
 have:a.hi+1=((a.hi.toNat+1:Nat):Int):=by omega
 simp only [Bool.or_eq_true,decide_eq_true_eq]
 exact .inr this
def byteArc (a:Arc):Prop:=0≤a.lo∧a.lo≤a.hi∧a.hi≤255
end Au
theorem zero257:Tryz.zeroCells208=Array.replicate 257 (.bool false):=by kernel_rfl
theorem zero256:Tryz.zeroCells209=Array.replicate 256 (.int .i64 0):=by kernel_rfl
theorem row_repl (w:World) (n:Nat) (u:Value) (t:TypeId):(w.alloc (.cells (Array.replicate n u) t)).rowIs w.heap.size t n (fun _=>u):=by
 refine ⟨Array.replicate n u,Go.Deep.blk_alloc_new _ _,by simp,fun i hi=>?_⟩
 simp [hi]
end
section
namespace Au
theorem full_of {l m:List Nat} (hl:l.Nodup) (hs:l ⊆ m) (hm:m.length≤l.length):∀x∈m,x∈l:=by
 intro x hx
 apply Classical.byContradiction
 intro hn
 have h1:(x :: l).Nodup:=List.nodup_cons.2 ⟨hn,hl⟩
 have h2:x :: l ⊆ m:=fun y hy=>by
  rcases List.mem_cons.1 hy with rfl | hy
  ·exact hx
  ·exact hs hy
 have:=h1.length_le_of_subset h2
 rw [List.length_cons] at this
 omega
def cl (C:Cls) (s:Nat):Nat:=(C.of s).toNat
def inside (C:Cls) (l:List Nat) (c:Nat):List Nat:=l.filter (fun s=>decide (cl C s=c∧(C.row c).length≠1))
def orderStep (C:Cls) (o:List Nat) (s:Nat):List Nat:=if (C.row (cl C s)).length=1 then o else if cl C s∈o then o else o++[cl C s]
def order (C:Cls) (l:List Nat):List Nat:=l.foldl (orderStep C) []
theorem inside_snoc (C:Cls) (l:List Nat) (s c:Nat):inside C (l++[s]) c=if cl C s=c∧(C.row c).length≠1 then inside C l c++[s] else inside C l c:=by
 unfold inside
 rw [List.filter_append]
 by_cases h:cl C s=c∧(C.row c).length≠1
 ·rw [if_pos h]
  have:[s].filter (fun s=>decide (cl C s=c∧(C.row c).length≠1))=[s]:=by
   rw [List.filter_cons,if_pos (decide_eq_true h)]
   rfl
  rw [this]
 ·rw [if_neg h]
  have:[s].filter (fun s=>decide (cl C s=c∧(C.row c).length≠1))=[]:=by
   rw [List.filter_cons,if_neg (by simpa using h)]
   rfl
  rw [this,List.append_nil]
theorem order_snoc (C:Cls) (l:List Nat) (s:Nat):order C (l++[s])=orderStep C (order C l) s:=by
 unfold order
 rw [List.foldl_append]
 rfl
theorem rev_ind {α:Type} {P:List α→Prop} (h0:P []) (h1:∀l x,P l→P (l++[x])) (l:List α):P l:=by
 have:∀n,∀l:List α,l.length=n→P l:=by
  intro n
  induction n with
  | zero=>intro l hl;rw [List.length_eq_zero_iff.1 hl];exact h0
  | succ n ih=>
   intro l hl
   have hne:l≠[]:=fun e=>by rw [e] at hl;cases hl
   rw [←List.dropLast_concat_getLast hne]
   exact h1 _ _ (ih _ (by rw [List.length_dropLast];omega))
 exact this _ l rfl
theorem order_iff (C:Cls) (l:List Nat) (c:Nat):c∈order C l↔inside C l c≠[]:=by
 induction l using rev_ind with
 | h0=>simp [order,inside]
 | h1 l s ih=>
  rw [order_snoc,inside_snoc]
  unfold orderStep
  by_cases h1:(C.row (cl C s)).length=1
  ·rw [if_pos h1,ih]
   have:¬(cl C s=c∧(C.row c).length≠1):=fun ⟨e,h⟩=>h (e ▸ h1)
   rw [if_neg this]
  ·rw [if_neg h1]
   by_cases e:cl C s=c
   ·subst e
    have e2:(if cl C s=cl C s∧(C.row (cl C s)).length≠1 then inside C l (cl C s)++[s] else inside C l (cl C s))=inside C l (cl C s)++[s]:=if_pos ⟨rfl,h1⟩
    rw [e2]
    constructor
    ·intro _ h
     simp at h
    ·intro _
     by_cases h2:cl C s∈order C l
     ·rw [if_pos h2];exact h2
     ·rw [if_neg h2];simp
   ·have e2:(if cl C s=c∧(C.row c).length≠1 then inside C l c++[s] else inside C l c)=inside C l c:=if_neg fun ⟨h,_⟩=>e h
    rw [e2,←ih]
    by_cases h2:cl C s∈order C l
    ·rw [if_pos h2]
    ·rw [if_neg h2,List.mem_append]
     constructor
     ·rintro (h | h)
      ·exact h
      ·exact absurd (List.mem_singleton.1 h).symm e
     ·exact .inl
theorem order_nodup (C:Cls) (l:List Nat):(order C l).Nodup:=by
 induction l using rev_ind with
 | h0=>simp [order]
 | h1 l s ih=>
  rw [order_snoc]
  unfold orderStep
  split
  ·exact ih
  ·split
   ·exact ih
   ·rename_i h
    unfold List.Nodup at *
    rw [List.pairwise_append]
    exact ⟨ih,by simp,fun x hx y hy e=>by simp at hy;subst hy;exact h (e ▸ hx)⟩
theorem mem_inside (C:Cls) (l:List Nat) (c s:Nat):s∈inside C l c↔s∈l∧cl C s=c∧(C.row c).length≠1:=by
 unfold inside
 rw [List.mem_filter,decide_eq_true_iff]
def splitC (C0:Cls) (l:List Nat) (C:Cls) (c:Nat):Cls:=if (inside C0 l c).length<(C.row c).length then C.split c (inside C0 l c) else C
def splitBy (C:Cls) (l:List Nat):Cls:=(order C l).foldl (splitC C l) C
structure SB (d:List St) (O:Option Nat→Prop) (R:Nat→Prop) (l:List Nat) (C:Cls) (D:List Nat) (C':Cls):Prop where
 inv:HInv d O R C'
 mem:C.mem.length≤C'.mem.length
 ref:∀s,s<d.length→C'.of s=C.of s∨((C.mem.length:Int)≤C'.of s∧∃c∈D,C.of s=(c:Int))
 row:∀c,c<C.mem.length→c∉D→C'.row c=C.row c
 same:∀s t,s<d.length→t<d.length→C'.of s=C'.of t→C.of s=C.of t
 done:∀s t,s<d.length→t<d.length→C'.of s=C'.of t→(∃c∈D,C.of s=(c:Int))→(s∈l↔t∈l)
 wq:C'.wq.length+C.mem.length=C.wq.length+C'.mem.length
theorem SB.start {d:List St} {O:Option Nat→Prop} {R:Nat→Prop} {C:Cls} (h:HInv d O R C) (l:List Nat):SB d O R l C [] C:=
 ⟨h,Nat.le_refl _,fun _ _=>.inl rfl,fun _ _ _=>rfl,fun _ _ _ _ e=>e,(fun _ _ _ _ _ ⟨_,h,_⟩=>absurd h (by simp)),rfl⟩
theorem of_cl {C:Cls} {s:Nat} (h:0≤C.of s) (c:Nat):cl C s=c↔C.of s=(c:Int):=by
 unfold cl
 omega
theorem SB.next {d:List St} {O:Option Nat→Prop} {R:Nat→Prop} {C C':Cls} {l D:List Nat} (h:SB d O R l C D C') (h0:HInv d O R C) (hl:l.Nodup) (hlt:∀s∈l,s<d.length∧0≤C.of s)
  (hX:∀s t,s<d.length→t<d.length→Eqv (ofL d) (ofL d) s t→(s∈l↔t∈l)) (c:Nat) (hc:c∈order C l) (hD:c∉D):SB d O R l C (D++[c]) (splitC C l C' c):=by
 have hne:=(order_iff C l c).1 hc
 obtain ⟨s0,hs0⟩:=List.exists_mem_of_ne_nil _ hne
 obtain ⟨hs1,hs2,hs3⟩:=(mem_inside C l c s0).1 hs0
 have hcl:c<C.mem.length:=by
  obtain ⟨h1,h2⟩:=hlt s0 hs1
  have h3:=(of_cl h2 c).1 hs2
  rcases h0.lt h1 with h4 | h4 <;> omega
 have hrow:=h.row c hcl hD
 have hof:∀s,s<d.length→(C'.of s=(c:Int)↔C.of s=(c:Int)):=by
  intro s hs
  rcases h.ref s hs with e | ⟨e,c',hc',e2⟩
  ·rw [e]
  ·constructor
   ·intro k;omega
   ·intro k
    have:c'=c:=by omega
    exact absurd (this ▸ hc') hD
 have hmem:∀s,s∈inside C l c↔s<d.length∧C'.of s=(c:Int)∧s∈l:=by
  intro s
  rw [mem_inside]
  constructor
  ·rintro ⟨h1,h2,_⟩
   obtain ⟨h3,h4⟩:=hlt s h1
   exact ⟨h3,(hof s h3).2 ((of_cl h4 c).1 h2),h1⟩
  ·rintro ⟨h1,h2,h3⟩
   exact ⟨h3,(of_cl (hlt s h3).2 c).2 ((hof s h1).1 h2),hs3⟩
 have hnod:(inside C l c).Nodup:=hl.sublist List.filter_sublist
 have hpos:0<(inside C l c).length:=List.length_pos_iff.2 hne
 unfold splitC
 by_cases hlt2:(inside C l c).length<(C'.row c).length
 ·rw [if_pos hlt2]
  obtain ⟨k1,k2,k3⟩:=h.inv.split (fun s=>s∈l) hX c (inside C l c) hnod hmem hpos hlt2
  obtain ⟨_,_,_,g4,_,g6,_,g8,g9⟩:=split_ok h.inv.ok h.inv.wait c (inside C l c) hnod (fun s hs=>⟨((hmem s).1 hs).1,((hmem s).1 hs).2.1⟩) hpos
  refine ⟨k1,by have:=h.mem;omega,fun s hs=>?_,fun c' hc' hD'=>?_,fun s t hs ht e=>?_,fun s t hs ht e hk=>?_,by have:=h.wq;omega⟩
  ·rw [g4 s]
   split
   ·rename_i hin
    exact .inr ⟨by have:=h.mem;omega,c,by simp,(hof s hs).1 ((hmem s).1 hin).2.1⟩
   ·rcases h.ref s hs with e | ⟨e,c',hc',e2⟩
    ·exact .inl e
    ·exact .inr ⟨e,c',by simp [hc'],e2⟩
  ·have hne2:c'≠c:=fun e=>hD' (by simp [e])
   rw [g6 c',if_neg (by have:=h.mem;omega),g8 c' hne2]
   exact h.row c' hc' fun e=>hD' (by simp [e])
  ·refine h.same s t hs ht ?_
   rw [g4 s,g4 t] at e
   have hlen:∀s,s<d.length→C'.of s≠(C'.mem.length:Int):=fun s hs=>by rcases h.inv.lt hs with h4 | h4 <;> omega
   by_cases i1:s∈inside C l c
   ·by_cases i2:t∈inside C l c
    ·rw [((hmem s).1 i1).2.1,((hmem t).1 i2).2.1]
    ·rw [if_pos i1,if_neg i2] at e
     exact absurd e.symm (hlen t ht)
   ·by_cases i2:t∈inside C l c
    ·rw [if_neg i1,if_pos i2] at e
     exact absurd e (hlen s hs)
    ·rwa [if_neg i1,if_neg i2] at e
  ·rw [g4 s,g4 t] at e
   have hlen:∀s,s<d.length→C'.of s≠(C'.mem.length:Int):=fun s hs=>by rcases h.inv.lt hs with h4 | h4 <;> omega
   by_cases i1:s∈inside C l c
   ·by_cases i2:t∈inside C l c
    ·exact ⟨fun _=>((hmem t).1 i2).2.2,fun _=>((hmem s).1 i1).2.2⟩
    ·rw [if_pos i1,if_neg i2] at e
     exact absurd e.symm (hlen t ht)
   ·by_cases i2:t∈inside C l c
    ·rw [if_neg i1,if_pos i2] at e
     exact absurd e (hlen s hs)
    ·rw [if_neg i1,if_neg i2] at e
     obtain ⟨c',hc',e2⟩:=hk
     rcases List.mem_append.1 hc' with hc' | hc'
     ·exact h.done s t hs ht e ⟨c',hc',e2⟩
     ·simp at hc'
      subst hc'
      have e3:=(hof s hs).2 e2
      have e4:C'.of t=(c':Int):=by rw [←e];exact e3
      exact ⟨fun k=>absurd ((hmem s).2 ⟨hs,e3,k⟩) i1,fun k=>absurd ((hmem t).2 ⟨ht,e4,k⟩) i2⟩
 ·rw [if_neg hlt2]
  refine ⟨h.inv,h.mem,fun s hs=>?_,fun c' hc' hD'=>h.row c' hc' fun e=>hD' (by simp [e]),h.same,fun s t hs ht e hk=>?_,h.wq⟩
  ·rcases h.ref s hs with e | ⟨e,c',hc',e2⟩
   ·exact .inl e
   ·exact .inr ⟨e,c',by simp [hc'],e2⟩
  ·obtain ⟨c',hc',e2⟩:=hk
   rcases List.mem_append.1 hc' with hc' | hc'
   ·exact h.done s t hs ht e ⟨c',hc',e2⟩
   ·simp at hc'
    subst hc'
    have e3:=(hof s hs).2 e2
    have e4:C'.of t=(c':Int):=by rw [←e];exact e3
    have hfull:=full_of hnod (fun s hs=>h.inv.ok.row_mem ((hmem s).1 hs).1 ((hmem s).1 hs).2.1) (Nat.le_of_not_lt hlt2)
    exact ⟨fun _=>((hmem t).1 (hfull t (h.inv.ok.row_mem ht e4))).2.2,fun _=>((hmem s).1 (hfull s (h.inv.ok.row_mem hs e3))).2.2⟩
theorem SB.upTo {d:List St} {O:Option Nat→Prop} {R:Nat→Prop} {C:Cls} {l:List Nat} (h0:HInv d O R C) (hl:l.Nodup) (hlt:∀s∈l,s<d.length∧0≤C.of s)
  (hX:∀s t,s<d.length→t<d.length→Eqv (ofL d) (ofL d) s t→(s∈l↔t∈l)) (k:Nat) (hk:k≤(order C l).length):SB d O R l C ((order C l).take k) (((order C l).take k).foldl (splitC C l) C):=by
 induction k with
 | zero=>exact SB.start h0 l
 | succ k ih=>
  have hk':k<(order C l).length:=by omega
  rw [List.take_succ_eq_append_getElem hk',List.foldl_append]
  refine (ih (by omega)).next h0 hl hlt hX _ (List.getElem_mem hk') ?_
  intro hm
  obtain ⟨j,hj,e⟩:=List.getElem_of_mem hm
  rw [List.length_take] at hj
  rw [List.getElem_take] at e
  have:=(List.nodup_iff_pairwise_ne.1 (order_nodup C l))
  have:=List.pairwise_iff_getElem.1 this j k (by omega) hk' (by omega)
  exact this e
theorem HInv.splitBy {d:List St} {O:Option Nat→Prop} {R:Nat→Prop} {C:Cls} {l:List Nat} (h:HInv d O R C) (hl:l.Nodup) (hlt:∀s∈l,s<d.length∧0≤C.of s)
  (hX:∀s t,s<d.length→t<d.length→Eqv (ofL d) (ofL d) s t→(s∈l↔t∈l)):
  HInv d O R (Au.splitBy C l)∧(Au.splitBy C l).wq.length+C.mem.length=C.wq.length+(Au.splitBy C l).mem.length ∧
  ∀s t,s<d.length→t<d.length→(Au.splitBy C l).of s=(Au.splitBy C l).of t→0≤(Au.splitBy C l).of s→(s∈l↔t∈l):=by
 have k:=SB.upTo h hl hlt hX (order C l).length (Nat.le_refl _)
 rw [List.take_of_length_le (Nat.le_refl _)] at k
 refine ⟨k.inv,k.wq,fun s t hs ht e h1=>?_⟩
 have e0:=k.same s t hs ht e
 have hp:0≤C.of s:=by
  rcases k.ref s hs with e2 | ⟨_,c,_,e2⟩
  ·change 0≤(((order C l).foldl (splitC C l) C)).of s at h1
   omega
  ·omega
 by_cases hc:cl C s∈order C l
 ·exact k.done s t hs ht e ⟨_,hc,(of_cl hp _).1 rfl⟩
 ·rw [order_iff] at hc
  have hc:inside C l (cl C s)=[]:=Classical.not_not.1 hc
  have hm:=mem_inside C l (cl C s)
  rw [hc] at hm
  have e1:cl C t=cl C s:=by unfold cl;rw [e0]
  by_cases h1:(C.row (cl C s)).length=1
  ·have r1:=h.ok.row_mem hs ((of_cl hp _).1 rfl)
   have r2:=h.ok.row_mem ht (show C.of t=(cl C s:Int) by rw [←e0];exact (of_cl hp _).1 rfl)
   obtain ⟨x,hx⟩:=List.length_eq_one_iff.1 h1
   rw [hx,List.mem_singleton] at r1 r2
   rw [r1,r2]
  ·exact ⟨fun k=>absurd ((hm s).2 ⟨k,rfl,h1⟩) (by simp),fun k=>absurd ((hm t).2 ⟨k,e1,h1⟩) (by simp)⟩
end Au
end
namespace Pl
def wid (m:Nat):Nat:=
 if m<256 then 1 else if m<65536 then 2 else if m<16777216 then 3 else if m<4294967296 then 4
 else if m<1099511627776 then 5 else if m<281474976710656 then 6 else if m<72057594037927936 then 7 else 8
theorem wid_le (m:Nat):1≤wid m∧wid m≤8:=by
 unfold wid
 repeat' split
 all_goals omega
theorem bitLenAux_iff:∀(f x k:Nat),k<f→(Go.Lib.bitLenAux f x≤k↔x<2 ^ k):=by
 intro f
 induction f with
 | zero=>intro x k h;omega
 | succ f ih=>
  intro x k h
  unfold Go.Lib.bitLenAux
  split
  ·rename_i hx
   subst hx
   exact ⟨fun _=>Nat.two_pow_pos k,fun _=>Nat.zero_le _⟩
  ·rename_i hx
   cases k with
   | zero=>simp;omega
   | succ k=>
    have:=ih (x/2) k (by omega)
    rw [Nat.pow_succ]
    omega
theorem bitLen_le (x:Nat):Go.Lib.bitLen x≤64:=by
 have:∀f x,Go.Lib.bitLenAux f x≤f:=by
  intro f
  induction f with
  | zero=>intro x;exact Nat.le_refl _
  | succ f ih=>
   intro x
   unfold Go.Lib.bitLenAux
   split
   ·omega
   ·have:=ih (x/2);omega
 exact this 64 x
theorem wid_bitLen (m:Nat):Nat.max 1 ((Go.Lib.bitLen m+7)/8)=wid m:=by
 have h1:=bitLenAux_iff 64 m 8 (by omega)
 have h2:=bitLenAux_iff 64 m 16 (by omega)
 have h3:=bitLenAux_iff 64 m 24 (by omega)
 have h4:=bitLenAux_iff 64 m 32 (by omega)
 have h5:=bitLenAux_iff 64 m 40 (by omega)
 have h6:=bitLenAux_iff 64 m 48 (by omega)
 have h7:=bitLenAux_iff 64 m 56 (by omega)
 have h9:=bitLen_le m
 change (Go.Lib.bitLen m≤_↔_) at h1 h2 h3 h4 h5 h6 h7
 simp only [Nat.reducePow] at h1 h2 h3 h4 h5 h6 h7
 generalize Go.Lib.bitLen m=b at *
 unfold wid
 simp only [Nat.max_def]
 repeat' split
 all_goals omega
def val (f:Nat):List UInt8→Nat→Nat
 | [],m=>m
 | b :: t,m=>val f t (256*m+(b.toNat ^^^ f))
theorem val_append (f:Nat) (l r:List UInt8) (m:Nat):val f (l++r) m=val f r (val f l m):=by
 induction l generalizing m with
 | nil=>rfl
 | cons b t ih=>exact ih _
theorem val_snoc (f:Nat) (l:List UInt8) (b:UInt8) (m:Nat):val f (l++[b]) m=256*val f l m+(b.toNat ^^^ f):=by
 rw [val_append];rfl
theorem xor_lt (b:UInt8) (f:Nat) (hf:f<256):b.toNat ^^^ f<256:=by
 have h:=b.toNat_lt
 exact Nat.xor_lt_two_pow (n:=8) (by simpa using h) (by simpa using hf)
theorem val_lt (f:Nat) (hf:f<256) (l:List UInt8):∀m k,m<256 ^ k→val f l m<256 ^ (k+l.length):=by
 induction l with
 | nil=>intro m k h;simpa [val] using h
 | cons b t ih=>
  intro m k h
  have hb:=xor_lt b f hf
  have:256*m+(b.toNat ^^^ f)<256 ^ (k+1):=by rw [Nat.pow_succ];omega
  have:=ih _ _ this
  simpa [val,Nat.add_assoc,Nat.add_comm,Nat.add_left_comm] using this
def rdWide (c:UInt8) (t:List UInt8) (f:Nat):Int × Int × Int:=
 if 247<c.toNat ^^^ f then (0,0,3)
 else if t.length<(c.toNat ^^^ f)-239 then (0,0,2)
 else if wid (val f (t.take ((c.toNat ^^^ f)-239)) 0)<(c.toNat ^^^ f)-239∨9223372036854775695<val f (t.take ((c.toNat ^^^ f)-239)) 0 then (0,0,3)
 else ((val f (t.take ((c.toNat ^^^ f)-239)) 0:Int)+112,((c.toNat ^^^ f:Nat):Int)-238,0)
def back (f:Nat) (x:Int × Int × Int):Int × Int × Int:=if x.2.2=0∧f≠0 then (-x.1-1,x.2) else x
def flipOf (c:UInt8):Nat:=if c.toNat<128 then 255 else 0
def rdNum:List UInt8→Int × Int × Int
 | []=>(0,0,2)
 | c :: t=>
  if c.toNat ^^^ flipOf c<240 then back (flipOf c) (((c.toNat ^^^ flipOf c:Nat):Int)-128,1,0)
  else back (flipOf c) (rdWide c t (flipOf c))
def be (f:Nat):Nat→Nat→List UInt8
 | 0,_=>[]
 | k+1,m=>UInt8.ofNat ((m/256 ^ k%256) ^^^ f) :: be f k m
def mag (n:Int):Nat:=if n<0 then (-n-1).toNat else n.toNat
def sgn (n:Int):Nat:=if n<0 then 255 else 0
def numB (n:Int):List UInt8:=
 if mag n<112 then [UInt8.ofNat ((128+mag n) ^^^ sgn n)]
 else UInt8.ofNat ((239+wid (mag n-112)) ^^^ sgn n) :: be (sgn n) (wid (mag n-112)) (mag n-112)
def numsB (l:List Int):List UInt8:=l.flatMap numB
end Pl
end Go.Proofs.YtmdefnbpimfbgaaGreatDoor

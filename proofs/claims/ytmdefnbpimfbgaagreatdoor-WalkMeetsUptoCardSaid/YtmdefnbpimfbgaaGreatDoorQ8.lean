/-
  Lemmas on automata, dictionaries and the walk over them, the program's calls and the given ones.
-/
import Derived.Test.YtmdefnbpimfbgaaGreatDoorQ3
set_option maxRecDepth 100000
set_option maxHeartbeats 16000000
namespace Go.Proofs.YtmdefnbpimfbgaaGreatDoor
section
open Go.RowKit
def segV (Z:List (Nat × Nat)):List Value:=Z.flatMap fun z=>[.int .i64 (z.1:Int),.int .i64 (z.2:Int),.slice none 0 0]
theorem segV_snoc (Z:List (Nat × Nat)) (z:Nat × Nat):segV (Z++[z])=segV Z++[.int .i64 (z.1:Int),.int .i64 (z.2:Int),.slice none 0 0]:=by simp [segV]
theorem segV_length (Z:List (Nat × Nat)):(segV Z).length=Z.length*3:=by
 induction Z with
 | nil=>rfl
 | cons x t ih=>
  show (_ :: _ :: _ :: segV t).length=_
  simp only [List.length_cons,ih]
  omega
theorem segV_set (Y:List (Nat × Nat)) (lo c:Nat) (x:Value):(segV Y++[.int .i64 (lo:Int),x,.slice none 0 0]).set (Y.length*3+1) (.int .i64 (c:Int))=segV (Y++[(lo,c)]):=by
 rw [List.set_append_right _ _ (by rw [segV_length];omega),segV_length,segV_snoc]
 have:Y.length*3+1-Y.length*3=1:=by omega
 rw [this]
 rfl
theorem segV_at (Y:List (Nat × Nat)) (x y z:Value):(segV Y++[x,y,z])[Y.length*3+1]?=some y:=by
 rw [List.getElem?_append_right (by rw [segV_length];omega),segV_length]
 have:Y.length*3+1-Y.length*3=1:=by omega
 rw [this]
 rfl
theorem Tryz.infoStr:(Tryz.prog.info? 165).map (fun i=>(i.zero,i.size,i.bytes))=some (some (.agg #[.int .i64 0,.int .i64 0,.slice none 0 0]),3,40):=by kernel_rfl
structure P2 (b:Nat→Bool) (B C:Nat) (w w0:World) (c N:Nat) (Z:List (Nat × Nat)) (κ:Nat→Nat) (v:Value):Prop where
 len:Z.length=N
 le:N≤c
 segs:Au.Segs b c Z
 kB:κ B=1
 kC:κ C=2
 lo:LoB κ w B
 all:RowC κ 3 w 165 3 v N (segV Z)
 beg:w.rowIs B 208 257 (fun j=>.bool (b j))
 of:w.rowIs C 209 256 (fun j=>.int .i64 (if j<c then (Au.cnt b j:Int) else 0))
 below:Below B w0 w
theorem P2.done {b:Nat→Bool} {B C:Nat} {w w0 w3:World} {c N N' lo g cp:Nat} {Z Y:List (Nat × Nat)} {κ κ':Nat→Nat} {v:Value} {x:Value} (h:P2 b B C w w0 c N Z κ v) (hc:c<256) (hB:B≤w.heap.size)
  (hs:Step κ 3 w w3 κ') (hr:RowC κ' 3 w3 165 3 (.slice (some ⟨g,0,none⟩) N' cp) N' (segV Y++[.int .i64 (lo:Int),x,.slice none 0 0])) (hN':N'=Y.length+1) (hle:N'≤c+1) (hseg:Au.Segs b (c+1) (Y++[(lo,c)])) (hcnt:Au.cnt b c=Y.length):
  (w3.cell? ⟨C,c,none⟩=some (.int .i64 0)∧w3.frozen? ⟨C,c,none⟩=false∧(w3.setCell ⟨C,c,none⟩ (.int .i64 (Y.length:Int))).cell? ⟨C,c,none⟩=some (.int .i64 (Y.length:Int)) ∧
   (w3.setCell ⟨C,c,none⟩ (.int .i64 (Y.length:Int))).cell? ⟨g,Y.length*3+1,none⟩=some x∧(w3.setCell ⟨C,c,none⟩ (.int .i64 (Y.length:Int))).frozen? ⟨g,Y.length*3+1,none⟩=false) ∧
  P2 b B C ((w3.setCell ⟨C,c,none⟩ (.int .i64 (Y.length:Int))).setCell ⟨g,Y.length*3+1,none⟩ (.int .i64 (c:Int))) w0 (c+1) N' (Y++[(lo,c)]) κ' (.slice (some ⟨g,0,none⟩) N' cp):=by
 have kB:κ' B=1:=by rw [hs.col B h.beg.lt,h.kB]
 have kC:κ' C=2:=by rw [hs.col C h.of.lt,h.kC]
 have hbeg:=h.beg.of_block (hs.block B h.beg.lt (by rw [h.kB];decide))
 have hof:=h.of.of_block (hs.block C h.of.lt (by rw [h.kC];decide))
 have hlo:=h.lo.step hs hB
 have hbel:=hs.below h.lo (by decide) h.below hB
 have s4:Step κ' 2 w3 (w3.setCell ⟨C,c,none⟩ (.int .i64 (Y.length:Int))) κ':=Step.of_set w3 C c _ kC
 have hr4:=hr.step s4 (by decide)
 have hof4:=hof.set c (.int .i64 (Y.length:Int))
 have hB3:B≤w3.heap.size:=Nat.le_trans hB hs.size
 obtain ⟨g1,g2,_,_,g3,g4⟩:=hr4.at
 have s5:Step κ' 3 (w3.setCell ⟨C,c,none⟩ (.int .i64 (Y.length:Int))) ((w3.setCell ⟨C,c,none⟩ (.int .i64 (Y.length:Int))).setCell ⟨g,Y.length*3+1,none⟩ (.int .i64 (c:Int))) κ':=Step.of_set _ g _ _ g2
 refine ⟨⟨?_,hof.frozen c,?_,g4 _ _ (segV_at Y _ _ _),g3 _⟩,?_,hle,hseg,kB,kC,?_,?_,?_,?_,?_⟩
 ·rw [hof.cell hc,if_neg (by omega)]
 ·rw [hof4.cell hc,if_pos rfl]
 ·rw [List.length_append,hN'];rfl
 ·exact (hlo.step s4 hB3).step s5 (by simpa [World.setCell] using hB3)
 ·have:=hr4.set (Y.length*3+1) (.int .i64 (c:Int))
  rw [segV_set] at this
  exact this
 ·exact (hbeg.of_block (s4.block B hbeg.lt (by rw [kB];decide))).of_block (s5.block B (by simpa [World.setCell] using hbeg.lt) (by rw [kB];decide))
 ·refine World.rowIs.congr (hof4.of_block (s5.block C (by simpa [World.setCell] using hof.lt) (by rw [kC];decide))) fun j hj=>?_
  by_cases e:j=c
  ·rw [if_pos e,if_pos (by omega),e,hcnt]
  ·rw [if_neg e]
   by_cases e2:j<c
   ·rw [if_pos e2,if_pos (by omega)]
   ·rw [if_neg e2,if_neg (by omega)]
 ·exact s5.below (hlo.step s4 hB3) (by decide) (s4.below hlo (by decide) hbel hB3) (by simpa [World.setCell] using hB3)
def strV (Y:List (Nat × Nat × Value)):List Value:=Y.flatMap fun z=>[.int .i64 (z.1:Int),.int .i64 (z.2.1:Int),z.2.2]
theorem strV_none (Z:List (Nat × Nat)):strV (Z.map fun z=>(z.1,z.2,Value.slice none 0 0))=segV Z:=by
 unfold strV segV
 rw [List.flatMap_map]
theorem strV_length (Z:List (Nat × Nat × Value)):(strV Z).length=Z.length*3:=by
 induction Z with
 | nil=>rfl
 | cons x t ih=>
  show (_ :: _ :: _ :: strV t).length=_
  simp only [List.length_cons,ih]
  omega
theorem strV_at (l:List (Nat × Nat × Value)):∀i (h:i<l.length),(strV l)[i*3]?=some (.int .i64 (l[i].1:Int))∧(strV l)[i*3+1]?=some (.int .i64 (l[i].2.1:Int))∧(strV l)[i*3+2]?=some l[i].2.2:=by
 induction l with
 | nil=>intro i h;cases h
 | cons x t ih=>
  intro i h
  cases i with
  | zero=>exact ⟨rfl,rfl,rfl⟩
  | succ i=>
   simp only [List.length_cons,Nat.add_lt_add_iff_right] at h
   have e:(i+1)*3=i*3+1+1+1:=by omega
   rw [e]
   exact ih i h
theorem strV_set (l:List (Nat × Nat × Value)):∀i (h:i<l.length) (u:Value),(strV l).set (i*3+2) u=strV (l.set i (l[i].1,l[i].2.1,u)):=by
 induction l with
 | nil=>intro i h;cases h
 | cons x t ih=>
  intro i h u
  cases i with
  | zero=>rfl
  | succ i=>
   simp only [List.length_cons,Nat.add_lt_add_iff_right] at h
   have e:(i+1)*3+2=(i*3+2)+1+1+1:=by omega
   rw [e]
   show _ :: _ :: _ :: (strV t).set (i*3+2) u=_
   rw [ih i h u]
   rfl
def intsV (l:List Int):List Value:=l.map (fun c=>.int .i64 c)
theorem intsV_snoc (l:List Int) (c:Int):intsV l++[.int .i64 c]=intsV (l++[c]):=by simp [intsV]
theorem intsV_at (l:List Int) (j:Nat) (h:j<l.length):(intsV l)[j]?=some (.int .i64 l[j]):=by simp [intsV,h]
structure P3 (b:Nat→Bool) (C:Nat) (w w0:World) (B N:Nat) (Z:List (Nat × Nat)) (Y:List (Nat × Nat × Value)) (T:Nat→List Int) (κ:Nat→Nat) (v:Value):Prop where
 kC:κ C=2
 lo:LoB κ w B
 len:Y.length=N
 segs:Y.map (fun y=>(y.1,y.2.1))=Z
 all:RowC κ 3 w 165 3 v N (strV Y)
 to:∀i (h:i<Y.length),RowC κ (10+i) w 3 1 Y[i].2.2 (T i).length (intsV (T i))
 of:w.rowIs C 209 256 (fun j=>.int .i64 (Au.cnt b j:Int))
 below:Below B w0 w
namespace Au
def tos (b:Nat→Bool) (A:List Arc) (i:Nat):List Int:=(A.filter (fun a=>decide (cnt b a.lo.toNat≤i∧i≤cnt b a.hi.toNat))).map (fun a=>a.to)
theorem tos_snoc (b:Nat→Bool) (A:List Arc) (a:Arc) (i:Nat):tos b (A++[a]) i=if cnt b a.lo.toNat≤i∧i≤cnt b a.hi.toNat then tos b A i++[a.to] else tos b A i:=by
 unfold tos
 rw [List.filter_append,List.map_append]
 by_cases h:cnt b a.lo.toNat≤i∧i≤cnt b a.hi.toNat
 ·rw [if_pos h]
  simp [h]
 ·rw [if_neg h]
  simp [h]
theorem tos_len (b:Nat→Bool) (A:List Arc) (i:Nat):(tos b A i).length≤A.length:=by
 unfold tos
 rw [List.length_map]
 exact List.length_filter_le _ _
theorem tos_hits (b:Nat→Bool) (A:List Arc) (h:∀a∈A,byteArc a∧(a.lo.toNat=0∨b a.lo.toNat=true)∧b (a.hi.toNat+1)=true) (x:Nat):hits A x=tos b A (cnt b x):=by
 unfold hits tos
 congr 1
 apply List.filter_congr
 intro a ha
 obtain ⟨⟨h1,h2,h3⟩,h4,h5⟩:=h a ha
 have:=holds_cnt b a h1 h2 h4 h5 x
 cases e:a.holds x with
 | true=>exact (decide_eq_true (this.1 e)).symm
 | false=>exact (decide_eq_false fun k=>by rw [this.2 k] at e;cases e).symm
end Au
theorem P3.step {b:Nat→Bool} {C:Nat} {w w' w0:World} {B N c:Nat} {Z:List (Nat × Nat)} {Y:List (Nat × Nat × Value)} {T:Nat→List Int} {κ κ':Nat→Nat} {v:Value} (h:P3 b C w w0 B N Z Y T κ v) (hs:Step κ c w w' κ') (h2:c≠2) (h3:c≠3) (h0:c≠0) (h10:c<10) (hB:B≤w.heap.size):P3 b C w' w0 B N Z Y T κ' v:=
 ⟨by rw [hs.col C h.of.lt,h.kC],h.lo.step hs hB,h.len,h.segs,h.all.step hs (Ne.symm h3),fun i hi=>(h.to i hi).step hs (by omega),h.of.of_block (hs.block C h.of.lt (by rw [h.kC];exact Ne.symm h2)),hs.below h.lo h0 h.below hB⟩
theorem P3.push {b:Nat→Bool} {C:Nat} {w w3 w0:World} {B N j g cp ga cpa n:Nat} {Z:List (Nat × Nat)} {Y:List (Nat × Nat × Value)} {T:Nat→List Int} {κ κ':Nat→Nat} {to:Int} (h:P3 b C w w0 B N Z Y T κ (.slice (some ⟨ga,0,none⟩) N cpa)) (hB:B≤w.heap.size) (hj:j<Y.length)
  (hr:RowC κ' (10+j) w3 3 1 (.slice (some ⟨g,0,none⟩) n cp) n (intsV (T j)++[.int .i64 to])) (hn:n=(T j).length+1) (hs:Step κ (10+j) w w3 κ'):
  (w3.cell? ⟨ga,j*3+2,none⟩=some Y[j].2.2∧w3.frozen? ⟨ga,j*3+2,none⟩=false) ∧
  P3 b C (w3.setCell ⟨ga,j*3+2,none⟩ (.slice (some ⟨g,0,none⟩) n cp)) w0 B N Z (Y.set j (Y[j].1,Y[j].2.1,.slice (some ⟨g,0,none⟩) n cp)) (fun i=>if i=j then T j++[to] else T i) κ' (.slice (some ⟨ga,0,none⟩) N cpa)∧κ' ga=3:=by
 have hall:=h.all.step hs (by omega)
 obtain ⟨g1,g2,_,_,g3,g4⟩:=hall.at
 obtain ⟨_,_,c3⟩:=strV_at Y j hj
 have hB3:B≤w3.heap.size:=Nat.le_trans hB hs.size
 have hof:=h.of.of_block (hs.block C h.of.lt (by rw [h.kC];omega))
 have kC:κ' C=2:=by rw [hs.col C h.of.lt,h.kC]
 have s5:Step κ' 3 w3 (w3.setCell ⟨ga,j*3+2,none⟩ (.slice (some ⟨g,0,none⟩) n cp)) κ':=Step.of_set w3 ga _ _ g2
 have hlo:=h.lo.step hs hB
 refine ⟨⟨g4 _ _ c3,g3 _⟩,⟨kC,hlo.step s5 hB3,by rw [List.length_set];exact h.len,?_,?_,fun i hi=>?_,hof.of_block (s5.block C hof.lt (by rw [kC];decide)),s5.below hlo (by decide) (hs.below h.lo (by omega) h.below hB) hB3⟩,g2⟩
 ·rw [List.map_set,←h.segs]
  apply List.ext_getElem?
  intro i
  rw [List.getElem?_set]
  by_cases e:j=i
  ·subst e
   rw [if_pos rfl,if_pos (by simpa using hj),List.getElem?_map,List.getElem?_eq_getElem hj]
   rfl
  ·rw [if_neg e]
 ·rw [←strV_set Y j hj]
  exact hall.set _ _
 ·rw [List.length_set] at hi
  rw [List.getElem_set]
  by_cases e:j=i
  ·subst e
   rw [if_pos rfl]
   simp only [if_true,List.length_append,List.length_cons,List.length_nil]
   rw [intsV_snoc,hn] at hr
   have:=hr.step s5 (by omega)
   simpa [hn] using this
  ·rw [if_neg e]
   simp only [Ne.symm e,if_false]
   exact ((h.to i hi).step hs (by omega)).step s5 (by omega)
end
section
open Go.RowKit
def em:Value→Bool
 | .slice _ n _=>n==0
 | _=>false
def isTo (v:Value):Prop:=∃a n c,v=.slice a n c∧n≤9223372036854775807
theorem emptyP_any (w:World) (lo hi:Int) (v:Value) (hv:isTo v):
  Calls Tryz.prog 126 #[.agg #[.int .i64 lo,.int .i64 hi,v]] w fun e w'=>e=.returned (.bool (em v))∧Below w.heap.size w w':=by
 obtain ⟨a,n,c,rfl,hn⟩:=hv
 have hB:Hid (Below w.heap.size w (w.alloc (.cells #[.int .i64 lo,.int .i64 hi,.slice a n c] 165))):=(Below.refl _ _).alloc (Nat.le_refl _) _
 have c1:(w.alloc (.cells #[.int .i64 lo,.int .i64 hi,.slice a n c] 165)).cell? ⟨w.heap.size,2,none⟩=some (.slice a n c):=cell_at w [.int .i64 lo,.int .i64 hi,.slice a n c] _ 2 _ rfl
 by_cases h:n=0
 ·have e:em (.slice a n c)=true:=by subst h;rfl
  have e1:((n:Int)==0)=true:=beq_iff_eq.2 (by omega)
  rw [e]
  clear e h
  go_enter Tryz.func126,Tryz.ntmps126
  go_wp2_with fail
  go_ret
  exact ⟨rfl,hB.out⟩
 ·have e:em (.slice a n c)=false:=beq_eq_false_iff_ne.2 h
  have e1:((n:Int)==0)=false:=beq_eq_false_iff_ne.2 (by omega)
  rw [e]
  clear e h
  go_enter Tryz.func126,Tryz.ntmps126
  go_wp2_with fail
  go_ret
  exact ⟨rfl,hB.out⟩
def firstEm:List (Nat × Nat × Value)→Nat
 | []=>0
 | y :: r=>if em y.2.2=true then 0 else firstEm r+1
theorem firstEm_le (Y:List (Nat × Nat × Value)):firstEm Y≤Y.length:=by
 induction Y with
 | nil=>exact Nat.le_refl _
 | cons y r ih=>simp only [firstEm,List.length_cons];split <;> omega
theorem firstEm_drop (Y:List (Nat × Nat × Value)) (k:Nat) (h:k<Y.length):firstEm (Y.drop k)=if em Y[k].2.2=true then 0 else firstEm (Y.drop (k+1))+1:=by
 rw [List.drop_eq_getElem_cons h]
 rfl
theorem firstEm_take (Y:List (Nat × Nat × Value)):(Y.take (firstEm Y)).filter (fun y=>!em y.2.2)=Y.take (firstEm Y):=by
 induction Y with
 | nil=>rfl
 | cons y r ih=>
  simp only [firstEm]
  by_cases h:em y.2.2=true
  ·rw [if_pos h];rfl
  ·rw [if_neg h,List.take_succ_cons,List.filter_cons]
   have:(!em y.2.2)=true:=by simpa using h
   rw [if_pos this,ih]
theorem firstEm_at (Y:List (Nat × Nat × Value)) (h:firstEm Y<Y.length):em Y[firstEm Y].2.2=true:=by
 induction Y with
 | nil=>simp at h
 | cons y r ih=>
  by_cases hy:em y.2.2=true
  ·simp only [firstEm,hy,if_true,List.getElem_cons_zero]
  ·have e:firstEm (y :: r)=firstEm r+1:=by simp only [firstEm];rw [if_neg hy]
   simp only [e,List.getElem_cons_succ]
   exact ih (by rw [e,List.length_cons] at h;omega)
theorem indexFunc_any (κ:Nat→Nat) (w:World) (v:Value) (Y:List (Nat × Nat × Value)) (N:Nat) (hN:Y.length=N) (hv:RowC κ 3 w 165 3 v N (strV Y)) (hY:∀y∈Y,isTo y.2.2):
  Calls Tryz.prog 134 #[v,.func (.func 126) #[] #[]] w fun e w'=>e=.returned (.int .i64 (if firstEm Y<N then (firstEm Y:Int) else -1))∧Below w.heap.size w w':=by
 have hform:=hv.form
 obtain ⟨a,cap,rfl,hc1,hc2,hc⟩:=hform
 obtain ⟨r,hr⟩:∃r:Int,(if firstEm Y<N then (firstEm Y:Int) else -1)=r:=⟨_,rfl⟩
 rw [hr]
 have HC:=lh hc
 have HY:=lh hY
 have HN:=lh hN
 have hn2:N≤9223372036854775807:=by omega
 have HR:Hid ((if 0+firstEm (Y.drop 0)<N then ((0+firstEm (Y.drop 0):Nat):Int) else -1)=r):=by rw [List.drop_zero,Nat.zero_add];exact hr
 clear hc hc1 hr hY hN hv
 go_enter Tryz.func134,Tryz.ntmps134
 go_wp2_with fail
 go_loopg [8] N (fun gg vi wx=>∃k:Nat,k≤N∧gg=N-k∧vi=.int .i64 k∧Hid ((if k+firstEm (Y.drop k)<N then ((k+firstEm (Y.drop k):Nat):Int) else -1)=r)∧Below w.heap.size w wx)
 case atStart=>exact ⟨0,Nat.zero_le _,rfl,rfl,HR,Below.refl _ _⟩
 case round=>
  obtain ⟨k,hk,rfl,rfl,hS,hbel⟩:=hrel
  by_cases hkn:k<N
  ·have j1:(k:Int)<(N:Int):=by omega
   have kl:k<Y.length:=by rw [HN.out];exact hkn
   obtain ⟨g,rfl,hg,_,_,hcl⟩:=HC.out (by omega)
   obtain ⟨s1,s2,s3⟩:=strV_at Y k kl
   have e1:=(hbel.cell (p:=⟨g,k*3,none⟩) hg).trans (hcl _ _ s1)
   have e2:=(hbel.cell (p:=⟨g,k*3+1,none⟩) hg).trans (hcl _ _ s2)
   have e3:=(hbel.cell (p:=⟨g,k*3+2,none⟩) hg).trans (hcl _ _ s3)
   have hto:=HY.out _ (List.getElem_mem kl)
   have hL:=hS.out
   rw [firstEm_drop Y k kl] at hL
   have HL:=lh hL
   have HBE:=lh hbel
   have HE:Hid (∀W,Calls Tryz.prog 126 #[.agg #[.int .i64 (Y[k].1:Int),.int .i64 (Y[k].2.1:Int),Y[k].2.2]] W fun e w'=>e=.returned (.bool (em Y[k].2.2))∧Below W.heap.size W w'):=fun W=>emptyP_any W _ _ _ hto
   clear s1 s2 s3 hcl hL hS hbel hto
   generalize Y[k]=y at *
   by_cases he:em y.2.2=true
   ·have hr:(k:Int)=r:=by
     have h:=HL.out
     rw [if_pos he,Nat.add_zero,if_pos hkn] at h
     exact h
    subst hr
    rw [he] at HE
    clear HL he
    go_wp2_with fail
    refine (HE.out _).mono ?_
    rintro e w2 ⟨rfl,hb⟩
    have HB2:Hid (Below w.heap.size w w2):=chain HBE.out hb
    clear hb
    go_wp2_with fail
    go_ret
    exact ⟨rfl,HB2.out⟩
   ·have hst:Hid ((if k+1+firstEm (Y.drop (k+1))<N then ((k+1+firstEm (Y.drop (k+1)):Nat):Int) else -1)=r):=by
     have h:=HL.out
     rw [if_neg he] at h
     have e:k+(firstEm (Y.drop (k+1))+1)=k+1+firstEm (Y.drop (k+1)):=by omega
     rw [e] at h
     exact h
    have he':em y.2.2=false:=by simpa using he
    rw [he'] at HE
    clear HL he he'
    go_wp2_with fail
    refine (HE.out _).mono ?_
    rintro e w2 ⟨rfl,hb⟩
    have HB2:Hid (Below w.heap.size w w2):=chain HBE.out hb
    clear hb
    go_wp2_with fail
    go_roundg (N-(k+1))
    case rel=>exact ⟨k+1,by omega,rfl,by go_num,hst,HB2.out⟩
    case measure=>omega
  ·obtain rfl:k=N:=by omega
   have hr:-1=r:=by
    have h:=hS.out
    rw [List.drop_of_length_le (by rw [HN.out];exact Nat.le_refl _),if_neg (by omega)] at h
    exact h
   subst hr
   have HBE:=lh hbel
   clear hS hbel
   go_wp2_with fail
   go_ret
   exact ⟨rfl,HBE.out⟩
end
section
open Go.RowKit
theorem strV_setAll (l:List (Nat × Nat × Value)):∀i (_:i<l.length) (y:Nat × Nat × Value),(((strV l).set (i*3) (.int .i64 (y.1:Int))).set (i*3+1) (.int .i64 (y.2.1:Int))).set (i*3+2) y.2.2=strV (l.set i y):=by
 induction l with
 | nil=>intro i h;cases h
 | cons x t ih=>
  intro i h y
  cases i with
  | zero=>rfl
  | succ i=>
   simp only [List.length_cons,Nat.add_lt_add_iff_right] at h
   have e:(i+1)*3=i*3+1+1+1:=by omega
   rw [e]
   show _ :: _ :: _ :: (((strV t).set (i*3) _).set (i*3+1) _).set (i*3+2) _=_
   rw [ih i h y]
   rfl
structure Kept (κ:Nat→Nat) (w:World) (g N cp:Nat) (Y:List (Nat × Nat × Value)) (i j:Nat):Prop where
 row:∃X,X.length=N∧RowC κ 3 w 165 3 (.slice (some ⟨g,0,none⟩) N cp) N (strV X)∧X.take i=(Y.take j).filter (fun y=>!em y.2.2)∧X.drop j=Y.drop j
 len:i=((Y.take j).filter (fun y=>!em y.2.2)).length
 lt:i<j
 le:j≤N
 tot:Y.length=N
theorem Kept.get {κ:Nat→Nat} {w:World} {g N cp:Nat} {Y:List (Nat × Nat × Value)} {i j:Nat} (h:Kept κ w g N cp Y i j) (hj:j<Y.length):
  g<w.heap.size∧κ g=3∧(∀x,w.frozen? ⟨g,x,none⟩=false)∧(w.cell? ⟨g,j*3,none⟩=some (.int .i64 (Y[j].1:Int))∧w.cell? ⟨g,j*3+1,none⟩=some (.int .i64 (Y[j].2.1:Int))∧w.cell? ⟨g,j*3+2,none⟩=some Y[j].2.2) ∧
  ∃x y z,w.cell? ⟨g,i*3,none⟩=some x∧w.cell? ⟨g,i*3+1,none⟩=some y∧w.cell? ⟨g,i*3+2,none⟩=some z:=by
 obtain ⟨X,h1,h2,h3,h4⟩:=h.row
 have hjX:j<X.length:=by rw [h1,←h.tot];exact hj
 have hiX:i<X.length:=by have:=h.lt;omega
 obtain ⟨g1,g2,_,_,g3,g4⟩:=h2.at
 have e:X[j]=Y[j]:=by
  have:=congrArg (fun l=>l[0]?) h4
  simp only [List.getElem?_drop,Nat.add_zero] at this
  rw [List.getElem?_eq_getElem hjX,List.getElem?_eq_getElem hj] at this
  injection this
 obtain ⟨s1,s2,s3⟩:=strV_at X j hjX
 obtain ⟨t1,t2,t3⟩:=strV_at X i hiX
 rw [e] at s1 s2 s3
 exact ⟨g1,g2,g3,⟨g4 _ _ s1,g4 _ _ s2,g4 _ _ s3⟩,_,_,_,g4 _ _ t1,g4 _ _ t2,g4 _ _ t3⟩
theorem Kept.below {κ:Nat→Nat} {w w':World} {g N cp:Nat} {Y:List (Nat × Nat × Value)} {i j:Nat} (h:Kept κ w g N cp Y i j) (hb:Below w.heap.size w w'):Kept κ w' g N cp Y i j:=by
 obtain ⟨X,h1,h2,h3,h4⟩:=h.row
 exact ⟨⟨X,h1,⟨ownsRow_keep h2.own fun k hk=>hb.block k (h2.lt k hk).1,h2.col⟩,h3,h4⟩,h.len,h.lt,h.le,h.tot⟩
theorem Kept.drop {κ:Nat→Nat} {w:World} {g N cp:Nat} {Y:List (Nat × Nat × Value)} {i j:Nat} (h:Kept κ w g N cp Y i j) (hj:j<Y.length) (he:em Y[j].2.2=true):Kept κ w g N cp Y i (j+1):=by
 obtain ⟨X,h1,h2,h3,h4⟩:=h.row
 have e:(Y.take (j+1)).filter (fun y=>!em y.2.2)=(Y.take j).filter (fun y=>!em y.2.2):=by
  rw [List.take_succ_eq_append_getElem hj,List.filter_append]
  simp [he]
 refine ⟨⟨X,h1,h2,by rw [e];exact h3,?_⟩,by rw [e];exact h.len,by have:=h.lt;omega,by have:=h.tot;omega,h.tot⟩
 have:=congrArg (List.drop 1) h4
 simpa [List.drop_drop,Nat.add_comm] using this
theorem Kept.put {κ:Nat→Nat} {w:World} {g N cp:Nat} {Y:List (Nat × Nat × Value)} {i j:Nat} (h:Kept κ w g N cp Y i j) (hj:j<Y.length) (he:em Y[j].2.2=false):
  Kept κ (((w.setCell ⟨g,i*3,none⟩ (.int .i64 (Y[j].1:Int))).setCell ⟨g,i*3+1,none⟩ (.int .i64 (Y[j].2.1:Int))).setCell ⟨g,i*3+2,none⟩ Y[j].2.2) g N cp Y (i+1) (j+1):=by
 obtain ⟨X,h1,h2,h3,h4⟩:=h.row
 have hlt:=h.lt
 have hiX:i<X.length:=by have:=h.le;omega
 have e:(Y.take (j+1)).filter (fun y=>!em y.2.2)=(Y.take j).filter (fun y=>!em y.2.2)++[Y[j]]:=by
  rw [List.take_succ_eq_append_getElem hj,List.filter_append]
  simp [he]
 have hr:=((h2.set (i*3) (.int .i64 (Y[j].1:Int))).set (i*3+1) (.int .i64 (Y[j].2.1:Int))).set (i*3+2) Y[j].2.2
 rw [strV_setAll X i hiX Y[j]] at hr
 refine ⟨⟨X.set i Y[j],by rw [List.length_set];exact h1,hr,?_,?_⟩,by rw [e,List.length_append,←h.len];rfl,by omega,by have:=h.tot;omega,h.tot⟩
 ·rw [e,←h3,List.take_succ_eq_append_getElem (by rw [List.length_set];exact hiX),List.take_set_of_le (by omega)]
  simp
 ·rw [List.drop_set_of_lt (by omega)]
  have:=congrArg (List.drop 1) h4
  simpa [List.drop_drop,Nat.add_comm] using this
theorem kept_start {κ:Nat→Nat} {w:World} {g N cp:Nat} {Y:List (Nat × Nat × Value)} (h:RowC κ 3 w 165 3 (.slice (some ⟨g,0,none⟩) N cp) N (strV Y)) (hN:Y.length=N) (hk:firstEm Y<N):Kept κ w g N cp Y (firstEm Y) (firstEm Y+1):=by
 have h1:(Y.take (firstEm Y+1)).filter (fun y=>!em y.2.2)=Y.take (firstEm Y):=by
  rw [List.take_succ_eq_append_getElem (by omega),List.filter_append,firstEm_take]
  have:=firstEm_at Y (by omega)
  simp [this]
 refine ⟨⟨Y,hN,h,h1.symm,rfl⟩,?_,by omega,by omega,hN⟩
 rw [h1,List.length_take]
 omega
def zs (n:Nat):List Value:=(List.replicate n [.int .i64 0,.int .i64 0,Value.slice none 0 0]).flatten
theorem zs_len (n:Nat):(zs n).length=n*3:=by
 unfold zs
 induction n with
 | zero=>rfl
 | succ n ih=>rw [List.replicate_succ,List.flatten_cons,List.length_append,ih];simp;omega
theorem zs_cells (n:Nat):(Builtin.zeroCells #[.int .i64 0,.int .i64 0,Value.slice none 0 0] n).toList=zs n:=by
 have e1:(#[Value.int .i64 0,.int .i64 0,Value.slice none 0 0]:Array Value).size=3:=rfl
 apply List.ext_getElem
 ·simp [Builtin.zeroCells,zs_len]
 ·intro i h1 h2
  simp only [Builtin.zeroCells,Array.toList_map,List.getElem_map,Array.toList_range,List.getElem_range,e1]
  have key:∀n i (h:i<(zs n).length),(zs n)[i]=#[Value.int .i64 0,.int .i64 0,Value.slice none 0 0][i%3]!:=by
   intro n
   induction n with
   | zero=>intro i h;simp [zs] at h
   | succ n ih=>
    intro i h
    have e:zs (n+1)=[.int .i64 0,.int .i64 0,Value.slice none 0 0]++zs n:=by unfold zs;rw [List.replicate_succ,List.flatten_cons]
    by_cases hi:i<3
    ·simp only [e]
     match i,hi with
     | 0,_=>rfl
     | 1,_=>rfl
     | 2,_=>rfl
    ·simp only [e]
     rw [List.getElem_append_right (by simp;omega)]
     simp only [List.length_cons,List.length_nil]
     rw [ih (i-3) (by rw [e,List.length_append] at h;simp at h;omega)]
     congr 1
     omega
  exact (key n i h2).symm
theorem run_clearS (w:World) (g o n c:Nat) (hn:0<n) (ty:TypeId) (hc:∀j,j<n*3→(w.cell? ⟨g,o+j,none⟩).isSome=true) (hf:∀j,w.frozen? ⟨g,j,none⟩=false):
  (Builtin.clear_ #[162] ty #[.slice (some ⟨g,o,none⟩) n c]).run Tryz.prog w=.ok (.tuple #[]) (w.setCells g o (zs n)):=by
 have hv:∀w,(zeroValue 165).run Tryz.prog w=.ok (.agg #[.int .i64 0,.int .i64 0,.slice none 0 0]) w:=fun w=>by kernel_rfl
 have hst:=run_storeCells_cells (P:=Tryz.prog) g o (zs n) 0 w (by rw [zs_len];simpa using hc) (by intro j _;exact hf _) (by
  intro v hv
  unfold zs at hv
  rw [List.mem_flatten] at hv
  obtain ⟨l,hl,hv⟩:=hv
  rw [List.eq_of_mem_replicate hl] at hv
  exact one_of (l:=[.int .i64 0,.int .i64 0,.slice none 0 0]) rfl v hv)
 simp only [Nat.add_zero] at hst
 obtain ⟨m,rfl⟩:∃m,n=m+1:=⟨n-1,by omega⟩
 simp [Builtin.clear_,run_underlying Tryz.underlying162,hv,Value.cells,zs_cells,hst]
def Deleted (w:World) (g cp:Nat) (Y:List (Nat × Nat × Value)) (e:Ending) (w':World):Prop:=
 e=.returned (.slice (some ⟨g,0,none⟩) (Y.filter (fun y=>!em y.2.2)).length cp)∧(Y.filter (fun y=>!em y.2.2)).length≤cp ∧
 (∀(j:Nat) (u:Value),(strV (Y.filter (fun y=>!em y.2.2)))[j]?=some u→w'.cell? ⟨g,j,none⟩=some u)∧KeptF (fun b=>b=g) w w'
theorem keptF_setCells (F:Nat→Prop) (g:Nat) (hg:F g) {w0:World}:∀(vs:List Value) (o:Nat) {w:World},KeptF F w0 w→KeptF F w0 (w.setCells g o vs)
 | [],_,_,h=>h
 | v :: r,o,_,h=>keptF_setCells F g hg r (o+1) (h.set g o hg v)
theorem strV_take (Y:List (Nat × Nat × Value)):∀k,strV (Y.take k)=(strV Y).take (k*3):=by
 induction Y with
 | nil=>intro k;simp [strV]
 | cons y r ih=>
  intro k
  cases k with
  | zero=>simp [strV]
  | succ k=>
   rw [List.take_succ_cons]
   show _ :: _ :: _ :: strV (r.take k)=_
   rw [ih k]
   have e:(k+1)*3=k*3+1+1+1:=by omega
   rw [e]
   rfl
theorem Kept.done {κ:Nat→Nat} {w0 w:World} {g N cp:Nat} {Y:List (Nat × Nat × Value)} {i:Nat} (h:Kept κ w g N cp Y i N) (hk:KeptF (fun b=>b=g) w0 w):
  (∀j,j<(N-i)*3→(w.cell? ⟨g,i*3+j,none⟩).isSome=true)∧(∀j,w.frozen? ⟨g,j,none⟩=false)∧i<N∧N≤cp∧cp≤9223372036854775807∧i=(Y.filter (fun y=>!em y.2.2)).length∧Deleted w0 g cp Y (.returned (.slice (some ⟨g,0,none⟩) i cp)) (w.setCells g (i*3) (zs (N-i))):=by
 obtain ⟨X,h1,h2,h3,h4⟩:=h.row
 have hlt:=h.lt
 have htot:=h.tot
 have hf:Y.take N=Y:=List.take_of_length_le (by omega)
 rw [hf] at h3
 have hlen:=h.len
 rw [hf] at hlen
 obtain ⟨g1,g2,g5,g6,g3,g4⟩:=h2.at
 refine ⟨fun j hj=>?_,g3,hlt,g5,g6,hlen,by rw [←hlen],by omega,fun j u hu=>?_,?_⟩
 ·have hl:i*3+j<(strV X).length:=by rw [strV_length,h1];omega
  rw [g4 _ _ (List.getElem?_eq_getElem hl)]
  rfl
 ·rw [←h3,strV_take] at hu
  have hj:j<i*3:=by
   have:=(List.getElem?_eq_some_iff.1 hu).1
   rw [List.length_take] at this
   omega
  rw [World.cell?_setCells_out g _ _ _ ⟨g,j,none⟩ (fun _ _=>.inl hj)]
  rw [List.getElem?_take] at hu
  rw [if_pos hj] at hu
  exact g4 _ _ hu
 ·exact keptF_setCells (fun b=>b=g) g rfl _ _ hk
theorem deleteFunc_any (κ:Nat→Nat) (w:World) (g N cp:Nat) (Y:List (Nat × Nat × Value)) (hN:Y.length=N) (hv:RowC κ 3 w 165 3 (.slice (some ⟨g,0,none⟩) N cp) N (strV Y)) (hY:∀y∈Y,isTo y.2.2):
  Calls Tryz.prog 125 #[.slice (some ⟨g,0,none⟩) N cp,.func (.func 126) #[] #[]] w (Deleted w g cp Y):=by
 have HI:=lh (indexFunc_any κ w _ Y N hN hv hY)
 obtain ⟨hg,_,hncp,hcp,_,hcl⟩:=hv.at
 by_cases hk:firstEm Y<N
 rotate_left
 ·have hf:Y.filter (fun y=>!em y.2.2)=Y:=by
   have h1:=firstEm_take Y
   have h2:=firstEm_le Y
   rw [List.take_of_length_le (by omega)] at h1
   exact h1
  unfold Deleted
  rw [hf,hN]
  have e1:(if firstEm Y<N then (firstEm Y:Int) else -1) = -1:=if_neg hk
  rw [e1] at HI
  have HC:=lh hcl
  clear hcl hv hY e1 hf
  go_enter Tryz.func125,Tryz.ntmps125
  go_wp2_with fail
  refine HI.out.mono ?_
  rintro e w1 ⟨rfl,hb⟩
  have HB:=lh hb
  clear hb
  go_wp2_with fail
  go_ret
  exact ⟨rfl,hncp,fun j u hu=>(HB.out.cell (p:=⟨g,j,none⟩) hg).trans (HC.out j u hu),KeptF.of_below HB.out⟩
 ·have e1:(if firstEm Y<N then (firstEm Y:Int) else -1)=(firstEm Y:Int):=if_pos hk
  rw [e1] at HI
  have HK0:Hid (∀w1,Below w.heap.size w w1→Kept κ w1 g N cp Y (firstEm Y) (firstEm Y+1)):=fun w1 hb=>(kept_start hv hN hk).below hb
  have HY:=lh hY
  have n1:((firstEm Y:Int) == -1)=false:=beq_eq_false_iff_ne.2 (by omega)
  have hn2:N≤9223372036854775807:=by omega
  clear hcl hv hY e1
  generalize firstEm Y=k0 at *
  go_enter Tryz.func125,Tryz.ntmps125
  go_wp2_with fail
  refine HI.out.mono ?_
  rintro e w1 ⟨rfl,hb⟩
  have HKT:=lh (HK0.out w1 hb)
  have HB1:Hid (KeptF (fun b=>b=g) w w1):=KeptF.of_below hb
  clear hb HI HK0
  go_wp2_with fail
  go_loopg [5,6] (N-(k0+1)) (fun gg vi vj wx=>∃i j:Nat,i<j∧j≤N∧gg=N-j∧vi=.int .i64 i∧vj=.int .i64 j∧Hid (Kept κ wx g N cp Y i j)∧Hid (KeptF (fun b=>b=g) w wx))
  case atStart=>exact ⟨k0,k0+1,by omega,by omega,rfl,rfl,rfl,HKT,HB1⟩
  case round=>
   clear HKT HB1
   obtain ⟨i,j,hij,hjN,rfl,rfl,rfl,hT,hK⟩:=hrel
   by_cases hjn:j<N
   ·have j1:(j:Int)<(N:Int):=by omega
    have j2:(i:Int)<(N:Int):=by omega
    have jl:j<Y.length:=by omega
    obtain ⟨g1,g2,g3,⟨c1,c2,c3⟩,x0,x1,x2,d1,d2,d3⟩:=hT.out.get jl
    have hto:=HY.out _ (List.getElem_mem jl)
    have HE:Hid (∀W,Calls Tryz.prog 126 #[.agg #[.int .i64 (Y[j].1:Int),.int .i64 (Y[j].2.1:Int),Y[j].2.2]] W fun e w'=>e=.returned (.bool (em Y[j].2.2))∧Below W.heap.size W w'):=fun W=>emptyP_any W _ _ _ hto
    have hdr:Hid (em Y[j].2.2=true→∀w2,Kept κ w2 g N cp Y i j→Kept κ w2 g N cp Y i (j+1)):=fun he w2 h=>h.drop jl he
    have hpu:Hid (em Y[j].2.2=false→∀w2,Kept κ w2 g N cp Y i j→_):=fun he w2 h=>h.put jl he
    obtain ⟨a5,n5,c5,h5,_⟩:=hto
    rw [h5] at HE hdr hpu c3
    generalize (Y[j].1:Int)=p at *
    generalize (Y[j].2.1:Int)=q at *
    clear h5
    cases he:em (.slice a5 n5 c5) with
    | true=>
     have HD:=lh (hdr.out he)
     rw [he] at HE
     clear hdr hpu he d1 d2 d3
     go_wp2_with fail
     refine (HE.out _).mono ?_
     rintro e w2 ⟨rfl,hb⟩
     have hb0:Below wr.heap.size wr (wr.alloc (.cells #[.int .i64 p,.int .i64 q,.slice a5 n5 c5] 165)):=(Below.refl _ _).alloc (Nat.le_refl _) _
     have hb1:=chain hb0 hb
     have HT:=lh (HD.out _ (hT.out.below hb1))
     have HK:Hid (KeptF (fun b=>b=g) w w2):=hK.out.trans (KeptF.of_below hb1)
     clear hb hb0 hb1
     go_wp2_with fail
     go_roundg (N-(j+1))
     case rel=>exact ⟨i,j+1,by omega,by omega,rfl,rfl,by go_num,HT,HK⟩
     case measure=>omega
    | false=>
     have HD:=lh (hpu.out he)
     rw [he] at HE
     clear hdr hpu he
     go_wp2_with fail
     refine (HE.out _).mono ?_
     rintro e w2 ⟨rfl,hb⟩
     have hb0:Below wr.heap.size wr (wr.alloc (.cells #[.int .i64 p,.int .i64 q,.slice a5 n5 c5] 165)):=(Below.refl _ _).alloc (Nat.le_refl _) _
     have hb1:=chain hb0 hb
     have HT:=lh (HD.out _ (hT.out.below hb1))
     have HK:Hid (KeptF (fun b=>b=g) w w2):=hK.out.trans (KeptF.of_below hb1)
     obtain ⟨_,_,f3,_,y0,y1,y2,k1,k2,k3⟩:=(hT.out.below hb1).get jl
     have v0:w2.cell? ⟨wr.heap.size,0,none⟩=some (.int .i64 p):=(hb.cell (p:=⟨wr.heap.size,0,none⟩) (by simp)).trans (cell_at wr [.int .i64 p,.int .i64 q,.slice a5 n5 c5] _ 0 _ rfl)
     have v1:w2.cell? ⟨wr.heap.size,1,none⟩=some (.int .i64 q):=(hb.cell (p:=⟨wr.heap.size,1,none⟩) (by simp)).trans (cell_at wr [.int .i64 p,.int .i64 q,.slice a5 n5 c5] _ 1 _ rfl)
     have v2:w2.cell? ⟨wr.heap.size,2,none⟩=some (.slice a5 n5 c5):=(hb.cell (p:=⟨wr.heap.size,2,none⟩) (by simp)).trans (cell_at wr [.int .i64 p,.int .i64 q,.slice a5 n5 c5] _ 2 _ rfl)
     have q0:=f3 (i*3)
     have q1:=f3 (i*3+1)
     have q2:=f3 (i*3+2)
     clear hb hb0 hb1 f3 hT
     go_wp2_with fail
     go_roundg (N-(j+1))
     case rel=>exact ⟨i+1,j+1,by omega,by omega,rfl,by go_num,by go_num,HT,((HK.out.set g (i*3) rfl _).set g (i*3+1) rfl _).set g (i*3+2) rfl _⟩
     case measure=>omega
   ·obtain rfl:j=N:=by omega
    obtain ⟨f1,f2,f3,f4,f5,f6,f7⟩:=hT.out.done hK.out
    have HF:=lh f7
    have hcl:=fun ty=>run_clearS wr g (i*3) (j-i) (cp-i) (by omega) ty f1 f2
    have j1:¬(j:Int)<(j:Int):=by omega
    have j2:(i:Int)≤(j:Int):=by omega
    have j3:(j:Int)≤(cp:Int):=by omega
    have j4:i≠cp:=by omega
    clear f1 f2 f6 f7 hT hK
    go_wp2_with fail
    go_ret
    exact HF.out
theorem RowC.nums {κ:Nat→Nat} {c:Nat} {w:World} {v:Value} {l:List Int} (h:RowC κ c w 3 1 v l.length (intsV l)) (F:Nat→Prop) (hF:∀g,g<w.heap.size→κ g=c→F g):NumS F w v l:=by
 obtain ⟨a,cap,h1,h2,h3,h4⟩:=h.form
 refine ⟨a,cap,h1,h2,h3,fun h0=>?_⟩
 obtain ⟨g,h5,h6,h7,_,h8⟩:=h4 h0
 refine ⟨g,0,h5,h6,hF g h6 h7,fun j hj=>?_⟩
 rw [Nat.zero_add]
 exact h8 j _ (intsV_at l j hj)
theorem Au.All2.filter {σ τ:Type} {R:σ→τ→Prop} {p:σ→Bool} {q:τ→Bool} {l:List σ} {m:List τ} (h:Au.All2 R l m) (hpq:∀a b,R a b→p a=q b):Au.All2 R (l.filter p) (m.filter q):=by
 induction h with
 | nil=>exact .nil
 | cons hab _ ih=>
  rw [List.filter_cons,List.filter_cons,hpq _ _ hab]
  split
  ·exact .cons hab ih
  ·exact ih
theorem Au.All2.of_get {σ τ:Type} {R:σ→τ→Prop}:∀ {l:List σ} {m:List τ},l.length=m.length→(∀i (h:i<l.length) (h':i<m.length),R l[i] m[i])→Au.All2 R l m
 | [],[],_,_=>.nil
 | a :: l,b :: m,hl,h=>.cons (h 0 (by simp) (by simp)) (Au.All2.of_get (by simpa using hl) fun i hi hi'=>h (i+1) (Nat.succ_lt_succ hi) (Nat.succ_lt_succ hi'))
theorem P3.done {L:List (List Au.Arc)} {C:Nat} {w w0 w':World} {B N ga cp:Nat} {Z:List (Nat × Nat)} {Y:List (Nat × Nat × Value)} {κ:Nat→Nat} {e:Ending} (h:P3 (Au.marks L.flatten) C w w0 B N Z Y (Au.tos (Au.marks L.flatten) L.flatten) κ (.slice (some ⟨ga,0,none⟩) N cp)) (hZ:Au.Segs (Au.marks L.flatten) 256 Z) (hL:∀l∈L,∀a∈l,Au.byteArc a) (hB:B=w0.heap.size) (hBw:B≤w.heap.size) (hd:Deleted w ga cp Y e w'):
  ∃u S,e=.returned u∧Au.Cut L.flatten 0 S∧StrS (fun g=>w0.heap.size≤g) w' u S∧Below w0.heap.size w0 w':=by
 obtain ⟨d1,d2,d3,d4⟩:=hd
 have hall:=h.all.at
 have hga3:κ ga=3:=hall.2.1
 have hgaB:B≤ga:=h.lo ga hall.1 (by rw [hga3];decide)
 have hbel:Below w0.heap.size w0 w':=by
  rw [←hB]
  exact d4.below h.below (fun k hk=>by rw [hk];exact hgaB) hBw
 have hZl:Z.length=N:=by rw [←h.segs,List.length_map];exact h.len
 have hT:∀x,Au.hits L.flatten x=Au.tos (Au.marks L.flatten) L.flatten (Au.cnt (Au.marks L.flatten) x):=fun x=>Au.tos_hits _ _ (fun a ha=>by
  obtain ⟨l,hl,hal⟩:=List.mem_flatten.1 ha
  have h1:=hL l hl a hal
  exact ⟨h1,.inr (Au.marks_lo ha h1.1),Au.marks_hi ha (by have:=h1.1;have:=h1.2.1;omega)⟩) x
 have hbes:=Au.segs_beside hZ L.flatten ((List.range N).map fun k=>Au.tos (Au.marks L.flatten) L.flatten k) (by simp [hZl]) (fun k hk x _ hx=>by rw [hT x,hx];simp)
 have hcut:=Au.beside_cut _ _ _ hbes
 have hrel:Au.All2 (fun (y:Nat × Nat × Value) (s:Au.Strch)=>(y.1=s.lo∧y.2.1=s.hi)∧(!em y.2.2)=(!s.to.isEmpty)∧NumS (fun g=>w0.heap.size≤g) w' y.2.2 s.to) Y ((List.range Z.length).map fun k=>⟨(Z.getD k (0,0)).1,(Z.getD k (0,0)).2,((List.range N).map fun k=>Au.tos (Au.marks L.flatten) L.flatten k).getD k []⟩):=by
  refine Au.All2.of_get (by simp [hZl,h.len]) fun i hi hi'=>?_
  have hiN:i<N:=by rw [←h.len];exact hi
  simp only [List.getElem_map,List.getElem_range]
  have e1:Z.getD i (0,0)=(Y[i].1,Y[i].2.1):=by
   rw [←h.segs]
   simp [List.getD,hi]
  have e2:((List.range N).map fun k=>Au.tos (Au.marks L.flatten) L.flatten k).getD i []=Au.tos (Au.marks L.flatten) L.flatten i:=by simp [List.getD,hiN]
  rw [e1,e2]
  have hrow:=h.to i hi
  refine ⟨⟨rfl,rfl⟩,?_,?_⟩
  ·obtain ⟨a,c,hv,_⟩:=hrow.form
   rw [hv]
   show (!((Au.tos _ _ i).length==0))=_
   cases Au.tos (Au.marks L.flatten) L.flatten i <;> rfl
  ·have hn:=hrow.nums (fun g=>B≤g∧g≠ga) (fun g hg hc=>⟨h.lo g hg (by rw [hc];omega),fun e=>by rw [e,hga3] at hc;omega⟩)
   have hn2:=hn.keep (w':=w') d4.size fun g hg hgl=>d4.block g hgl hg.2
   refine hn2.wide fun g _ hg=>?_
   rw [←hB]
   exact hg.1
 have hfil:=hrel.filter (p:=fun y=>!em y.2.2) (q:=fun s=>!s.to.isEmpty) fun a b hab=>hab.2.1
 refine ⟨_,_,d1,hcut,?_,hbel⟩
 have hlen:=hfil.length
 refine ⟨_,cp,by rw [hlen],by rw [←hlen];exact d2,hall.2.2.2.1,fun h0=>⟨ga,0,rfl,Nat.lt_of_lt_of_le hall.1 d4.size,by rw [←hB];exact hgaB,fun j hj=>?_⟩⟩
 rcases hfil.get j with ⟨_,e2⟩ | ⟨a,b,e1,e2,hR⟩
 ·rw [List.getElem?_eq_getElem hj] at e2
  cases e2
 ·obtain ⟨hj1,rfl⟩:=List.getElem?_eq_some_iff.1 e1
  obtain ⟨_,rfl⟩:=List.getElem?_eq_some_iff.1 e2
  obtain ⟨⟨r1,r2⟩,_,r3⟩:=hR
  obtain ⟨s1,s2,s3⟩:=strV_at _ j hj1
  rw [Nat.zero_add]
  refine ⟨?_,?_,_,d3 _ _ s3,r3⟩
  ·rw [d3 _ _ s1,r1]
  ·rw [d3 _ _ s2,r2]
end
section
namespace Au
def crossOne (x y:Arc):List (Trail (Nat × Nat)):=if max x.lo y.lo≤min x.hi y.hi then [⟨(max x.lo y.lo).toNat,(min x.hi y.hi).toNat,(x.to.toNat,y.to.toNat)⟩] else []
def cross:List Arc→List Arc→List (Trail (Nat × Nat))
 | [],_=>[]
 | _ :: _,[]=>[]
 | x :: r,y :: q=>crossOne x y++if x.hi≤y.hi then cross r (y :: q) else cross (x :: r) q
 termination_by x y=>x.length+y.length
theorem cross_nil (y:List Arc):cross [] y=[]:=by rw [cross]
theorem cross_nil' (x:List Arc):cross x []=[]:=by cases x <;> rw [cross]
theorem cross_cons (x y:Arc) (r q:List Arc):cross (x :: r) (y :: q)=crossOne x y++if x.hi≤y.hi then cross r (y :: q) else cross (x :: r) q:=by rw [cross]
theorem look_low {n:Nat} {c:Int} {l:List Arc} (h:Row n c l) (z:Int) (hz:∀a∈l,z<a.lo):look l z=none:=by
 induction l with
 | nil=>rfl
 | cons a r ih=>
  have:=hz a (List.mem_cons_self ..)
  unfold look
  rw [if_neg (by omega)]
  exact ih h.tail.1 fun x hx=>hz x (List.mem_cons_of_mem _ hx)
theorem look_skip (a:Arc) (r:List Arc) (z:Int) (hz:a.hi<z):look (a :: r) z=look r z:=by
 show (if a.lo≤z∧z≤a.hi then some a.to else look r z)=_
 rw [if_neg (by omega)]
theorem look_hit (a:Arc) (r:List Arc) (z:Int) (h:a.lo≤z∧z≤a.hi):look (a :: r) z=some a.to:=by
 show (if a.lo≤z∧z≤a.hi then some a.to else look r z)=_
 rw [if_pos h]
theorem look_ahead {n:Nat} {c:Int} {a:Arc} {r:List Arc} (h:Row n c (a :: r)) (z:Int) (hz:z<a.lo):look (a :: r) z=none:=
 look_low h z fun x hx=>by
  obtain ⟨_,h2,h3⟩:=h.tail
  rcases List.mem_cons.1 hx with rfl | hx
  ·exact hz
  ·have:=h3 x hx;omega
def both (p q:Option Int):Option (Nat × Nat):=match p,q with
 | some a,some b=>some (a.toNat,b.toNat)
 | _,_=>none
theorem both_none (p:Option Int):both p none=none:=by cases p <;> rfl
theorem cross_leads (W:Walk (Nat × Nat)) (st:Nat × Nat) {n m:Nat}:∀(k:Nat) (x y:List Arc) (c:Nat),x.length+y.length≤k→Row n 256 x→Row m 256 y→(∀a∈x.head?,∀b∈y.head?,(c:Int)≤max a.lo b.lo) →
  (∀z:Nat,c≤z→z<256→W.go st z=both (look x (z:Int)) (look y (z:Int)))→Leads W st c (cross x y):=by
 intro k
 induction k with
 | zero=>
  intro x y c hk hx hy hc h
  have:x=[]:=List.length_eq_zero_iff.1 (by omega)
  subst this
  rw [cross_nil]
  intro z h1 h2
  exact h z h1 h2
 | succ k ih=>
  intro x y c hk hx hy hc h
  match x,y with
  | [],y=>
   rw [cross_nil]
   intro z h1 h2
   exact h z h1 h2
  | x :: r,[]=>
   rw [cross_nil']
   intro z h1 h2
   rw [h z h1 h2]
   exact both_none _
  | x :: r,y :: q=>
   obtain ⟨hr,hx2,hx3⟩:=hx.tail
   obtain ⟨hq,hy2,hy3⟩:=hy.tail
   have hcc:=hc x rfl y rfl
   simp only [List.length_cons] at hk
   rw [cross_cons]
   unfold crossOne
   by_cases hl:max x.lo y.lo≤min x.hi y.hi
   ·rw [if_pos hl]
    have hrest:Leads W st ((min x.hi y.hi).toNat+1) (if x.hi≤y.hi then cross r (y :: q) else cross (x :: r) q):=by
     by_cases hh:x.hi≤y.hi
     ·rw [if_pos hh]
      refine ih r (y :: q) _ (by simp only [List.length_cons];omega) hr hy (fun a ha b hb=>?_) fun z h1 h2=>?_
      ·have:=hx3 a (List.mem_of_mem_head? ha)
       omega
      ·rw [h z (by omega) h2,look_skip x r z (by omega)]
     ·rw [if_neg hh]
      refine ih (x :: r) q _ (by simp only [List.length_cons];omega) hx hq (fun a ha b hb=>?_) fun z h1 h2=>?_
      ·have:=hy3 b (List.mem_of_mem_head? hb)
       omega
      ·rw [h z (by omega) h2,look_skip y q z (by omega)]
    refine ⟨?_,?_,?_,fun z h1 h2=>?_,fun z h1 h2=>?_,hrest⟩
    ·show c≤(max x.lo y.lo).toNat;omega
    ·show (max x.lo y.lo).toNat≤(min x.hi y.hi).toNat;omega
    ·show (min x.hi y.hi).toNat<256;omega
    ·change z<(max x.lo y.lo).toNat at h2
     rw [h z h1 (by omega)]
     by_cases hm:x.lo≤y.lo
     ·rw [look_ahead hy z (by omega)];exact both_none _
     ·rw [look_ahead hx z (by omega)];rfl
    ·change (max x.lo y.lo).toNat≤z at h1
     change z≤(min x.hi y.hi).toNat at h2
     rw [h z (by omega) (by omega),look_hit x r z (by omega),look_hit y q z (by omega)]
     rfl
   ·rw [if_neg hl,List.nil_append]
    by_cases hh:x.hi≤y.hi
    ·rw [if_pos hh]
     refine ih r (y :: q) _ (by simp only [List.length_cons];omega) hr hy (fun a ha b hb=>?_) fun z h1 h2=>?_
     ·simp at hb;subst hb
      have:=hx3 a (List.mem_of_mem_head? ha)
      omega
     ·rw [h z h1 h2]
      by_cases hz:x.hi<z
      ·rw [look_skip x r z hz]
      ·rw [look_ahead hy z (by omega),both_none,both_none]
    ·rw [if_neg hh]
     refine ih (x :: r) q _ (by simp only [List.length_cons];omega) hx hq (fun a ha b hb=>?_) fun z h1 h2=>?_
     ·simp at ha;subst ha
      have:=hy3 b (List.mem_of_mem_head? hb)
      omega
     ·rw [h z h1 h2]
      by_cases hz:y.hi<z
      ·rw [look_skip y q z hz]
      ·rw [look_ahead hx z (by omega)];rfl
theorem pair_go {a b:List St} (s t:Nat) (z:Nat):(pair (ofL a) (ofL b)).plain.go (s,t) z=both (look (arcsOf a s) (z:Int)) (look (arcsOf b t) (z:Int)):=by
 have h1:∀(d:List St) (s:Nat),(ofL d).step s z=(look (arcsOf d s) (z:Int)).map Int.toNat:=by
  intro d s
  show (match d[s]? with | none=>none | some s=>(look s.arcs (z:Int)).map Int.toNat)=_
  unfold arcsOf
  cases d[s]? with
  | none=>rfl
  | some s=>rfl
 have h2:(pair (ofL a) (ofL b)).plain.go (s,t) z=(pair (ofL a) (ofL b)).step (s,t) z:=rfl
 rw [h2]
 simp only [pair,h1]
 cases look (arcsOf a s) (z:Int) with
 | none=>rfl
 | some p=>
  cases look (arcsOf b t) (z:Int) with
  | none=>rfl
  | some q=>rfl
theorem pair_leads {a b:List St} (ha:∀i (h:i<a.length),Row a.length 256 a[i].arcs) (hb:∀i (h:i<b.length),Row b.length 256 b[i].arcs) (s t:Nat):Leads (pair (ofL a) (ofL b)).plain (s,t) 0 (cross (arcsOf a s) (arcsOf b t)):=
 cross_leads _ _ _ _ _ 0 (Nat.le_refl _) (arcsOf_row ha s) (arcsOf_row hb t) (fun x hx y _=>by
  have:=arcsOf_row ha s
  cases h:arcsOf a s with
  | nil=>rw [h] at hx;cases hx
  | cons p r=>
   rw [h] at hx this
   simp at hx
   subst hx
   have:=this.tail.2.1
   omega) fun z _ _=>pair_go s t z
end Au
end
section
open Go.RowKit
theorem stretches_any (F:Nat→Prop) (w:World) (v:Value) (L:List (List Au.Arc)) (hv:RowsS F w v L) (hL:∀l∈L,∀a∈l,Au.byteArc a) (hbig:L.flatten.length≤1099511627776):
  Calls Tryz.prog 108 #[v] w fun e w'=>∃u S,e=.returned u∧Au.Cut L.flatten 0 S∧StrS (fun g=>w.heap.size≤g) w' u S∧Below w.heap.size w w':=by
 obtain ⟨a,cap,rfl,hc1,hc2,hc⟩:=hv
 obtain ⟨n,hn⟩:∃n,n=L.length:=⟨_,rfl⟩
 have hn2:n≤9223372036854775807:=by omega
 have HC:=lh hc
 have HN:=lh hn
 have HLA:=lh hL
 have HR0:Hid ((w.alloc (.cells Tryz.zeroCells208 208)).rowIs w.heap.size 208 257 (fun j=>.bool (Au.marks [] j))):=by rw [zero257];exact row_repl w 257 _ _
 have HB0:Hid (Below w.heap.size w (w.alloc (.cells Tryz.zeroCells208 208))):=(Below.refl _ _).alloc (Nat.le_refl _) _
 rw [←hn]
 clear hc hc1 hn hL
 go_enter Tryz.func108,Tryz.ntmps108
 go_wp2_with fail
 generalize w.alloc (.cells Tryz.zeroCells208 208)=w1 at *
 obtain ⟨B,hB⟩:∃B,w.heap.size=B:=⟨_,rfl⟩
 have hBB:w.heap.size≤B:=by omega
 simp only [hB] at HR0 HB0 ⊢
 go_loopg [18] n (fun gg vi wx=>∃i:Nat,i≤n∧gg=n-i∧vi=.int .i64 i∧Hid (wx.rowIs B 208 257 (fun j=>.bool (Au.marks (L.take i).flatten j)))∧Hid (Below B w wx))
 case atStart=>exact ⟨0,Nat.zero_le _,rfl,rfl,HR0,HB0⟩
 case round=>
  clear HR0 HB0
  obtain ⟨i,hi,rfl,rfl,hR,hbel⟩:=hrel
  by_cases hin:i<n
  ·have j1:(i:Int)<(n:Int):=by omega
   have hil:i<L.length:=by rw [←HN.out];exact hin
   obtain ⟨g,o,rfl,hg,_,hcl⟩:=HC.out (by omega)
   obtain ⟨va,c1,hva⟩:=hcl i hil
   have e1:=(hbel.out.cell (p:=⟨g,o+i,none⟩) (by rw [←hB];exact hg)).trans c1
   have hAL:Hid (∀a∈L[i],Au.byteArc a):=HLA.out _ (List.getElem_mem hil)
   have hnx:Hid ((L.take (i+1)).flatten=(L.take i).flatten++L[i]):=by
    show _=_
    rw [List.take_succ_eq_append_getElem hil,List.flatten_append]
    simp
   generalize L[i]=l at *
   generalize (L.take i).flatten=A at *
   obtain ⟨a2,cap2,rfl,hd1,hd2,hd⟩:=hva
   obtain ⟨m,hm⟩:∃m,m=l.length:=⟨_,rfl⟩
   have hm2:m≤9223372036854775807:=by omega
   have HD:=lh hd
   have HM:=lh hm
   rw [←hm] at e1
   have hR1:Hid (wr.rowIs B 208 257 (fun j=>.bool (Au.marks (A++l.take 0) j))):=by rw [List.take_zero,List.append_nil];exact hR
   clear c1 hcl hd hd1 hm hR
   go_wp2_with fail
   go_loopg [24] m (fun gg vk wx=>∃k:Nat,k≤m∧gg=m-k∧vk=.int .i64 k∧Hid (wx.rowIs B 208 257 (fun j=>.bool (Au.marks (A++l.take k) j)))∧Hid (Below B w wx))
   case atStart=>exact ⟨0,Nat.zero_le _,rfl,rfl,hR1,hbel⟩
   case round=>
    clear hR1 hbel e1
    obtain ⟨k,hk,rfl,rfl,hR,hbel⟩:=hrel
    by_cases hkm:k<m
    ·have kl:k<l.length:=by rw [←HM.out];exact hkm
     have j2:(k:Int)<(m:Int):=by omega
     obtain ⟨g2,o2,rfl,hg2,_,hcl2⟩:=HD.out (by omega)
     obtain ⟨d1,d2,d3⟩:=hcl2 k kl
     have e1:=(hbel.out.cell (p:=⟨g2,o2+k*3,none⟩) (by rw [←hB];exact hg2)).trans d1
     have e2:=(hbel.out.cell (p:=⟨g2,o2+k*3+1,none⟩) (by rw [←hB];exact hg2)).trans d2
     have e3:=(hbel.out.cell (p:=⟨g2,o2+k*3+2,none⟩) (by rw [←hB];exact hg2)).trans d3
     have hby:=hAL.out _ (List.getElem_mem kl)
     have hst:Hid (∀x,Au.marks (A++l.take (k+1)) x=(Au.marks (A++l.take k) x||(decide (l[k].lo=(x:Int))||decide (l[k].hi+1=(x:Int))))):=fun x=>by
      rw [List.take_succ_eq_append_getElem kl,←List.append_assoc,Au.marks_snoc]
     clear d1 d2 d3 hcl2
     generalize l[k]=x at *
     obtain ⟨lo,hi',to⟩:=x
     dsimp only at e1 e2 e3 hst
     obtain ⟨y1,y2,y3⟩:=hby
     dsimp only at y1 y2 y3
     obtain ⟨p,rfl⟩:∃p:Nat,lo=(p:Int):=⟨lo.toNat,by omega⟩
     obtain ⟨q,rfl⟩:∃q:Nat,hi'=(q:Int):=⟨hi'.toNat,by omega⟩
     have hR1:=hR.out.alloc (.cells #[.int .i64 (p:Int),.int .i64 (q:Int),.int .i64 to] 71)
     have HB1:Hid (Below B w (wr.alloc (.cells #[.int .i64 (p:Int),.int .i64 (q:Int),.int .i64 to] 71))):=hbel.out.alloc (by rw [←hB];exact hbel.out.size) _
     have p1:=hR1.cell (i:=p) (by omega)
     have p2:=hR1.frozen p
     have HR3:=(hR.out.set p (.bool true)).alloc (.cells #[.int .i64 (p:Int),.int .i64 (q:Int),.int .i64 to] 71)
     have HR2:Hid (((((wr.setCell ⟨B,p,none⟩ (.bool true)).setCell ⟨B,q+1,none⟩ (.bool true)).alloc (.cells #[.int .i64 (p:Int),.int .i64 (q:Int),.int .i64 to] 71)).drew).rowIs B 208 257 (fun j=>.bool (Au.marks (A++l.take (k+1)) j))):=by
      refine World.rowIs.congr (World.rowIs.drew (((hR.out.set p (.bool true)).set (q+1) (.bool true)).alloc _)) fun j _=>?_
      rw [hst.out]
      by_cases k1:j=q+1
      ·subst k1
       simp
      ·by_cases k2:j=p
       ·subst k2
        simp
       ·rw [if_neg k1,if_neg k2]
        have f1:decide ((p:Int)=(j:Int))=false:=decide_eq_false (by omega)
        have f2:decide ((q:Int)+1=(j:Int))=false:=decide_eq_false (by omega)
        rw [f1,f2]
        simp
     have HB2:Hid (Below B w ((((wr.setCell ⟨B,p,none⟩ (.bool true)).setCell ⟨B,q+1,none⟩ (.bool true)).alloc (.cells #[.int .i64 (p:Int),.int .i64 (q:Int),.int .i64 to] 71)).drew)):=by
      refine Below.drew (Below.alloc ?_ ?_ _)
      ·exact ((hbel.out.setCell (p:=⟨B,p,none⟩) (Nat.le_refl _) _).setCell (p:=⟨B,q+1,none⟩) (Nat.le_refl _) _)
      ·simp [World.setCell]
       have:=hbel.out.size
       omega
     have q1:=HR3.cell (i:=q+1) (by omega)
     have q2:=HR3.frozen (q+1)
     have hBw:B<wr.heap.size:=hR.out.lt
     clear hR hR1 HR3 hst hbel
     go_wp2_with fail
     go_region
     all_goals
      go_wp2_with fail
      go_roundg (m-(k+1))
      case rel=>exact ⟨k+1,by omega,rfl,by go_num,HR2,HB2⟩
      case measure=>omega
    ·obtain rfl:k=m:=by omega
     have hR2:Hid (wr.rowIs B 208 257 (fun j=>.bool (Au.marks (L.take (i+1)).flatten j))):=by
      have h:=hR.out
      rw [List.take_of_length_le (by rw [←HM.out];exact Nat.le_refl _),←hnx.out] at h
      exact h
     clear hR
     go_wp2_with fail
     go_roundg (n-(i+1))
     case rel=>exact ⟨i+1,by omega,rfl,by go_num,hR2,hbel⟩
     case measure=>omega
  ·obtain rfl:i=n:=by omega
   have hR2:Hid (wr.rowIs B 208 257 (fun j=>.bool (Au.marks L.flatten j))):=by
    have h:=hR.out
    rw [List.take_of_length_le (by rw [←HN.out];exact Nat.le_refl _)] at h
    exact h
   clear hR
   have hBw:B<wr.heap.size:=hR2.out.lt
   obtain ⟨C,hC⟩:∃C,wr.heap.size=C:=⟨_,rfl⟩
   obtain ⟨b,hb⟩:∃b,b=Au.marks L.flatten:=⟨_,rfl⟩
   have HBM:=lh hb
   have HR3:Hid ((wr.alloc (.cells Tryz.zeroCells209 209)).rowIs B 208 257 (fun j=>.bool (b j))):=by rw [hb];exact hR2.out.alloc _
   have HO3:Hid ((wr.alloc (.cells Tryz.zeroCells209 209)).rowIs C 209 256 (fun j=>.int .i64 (if j<0 then (Au.cnt b j:Int) else 0))):=by rw [zero256,←hC];exact row_repl wr 256 _ _
   have HB3:Hid (Below B w (wr.alloc (.cells Tryz.zeroCells209 209))):=hbel.out.alloc (by omega) _
   have HK:Hid (LoB (fun k=>if k=B then 1 else if k=C then 2 else 0) (wr.alloc (.cells Tryz.zeroCells209 209)) B):=fun k _ hk=>by
    dsimp only at hk
    split at hk
    ·omega
    ·split at hk <;> omega
   have hBC:B<C:=by omega
   clear hR2 hbel hb
   go_wp2_with fail
   generalize wr.alloc (.cells Tryz.zeroCells209 209)=w2 at *
   have HP0:Hid (P2 b B C w2 w 0 0 [] (fun k=>if k=B then 1 else if k=C then 2 else 0) (.slice none 0 0)):=⟨rfl,Nat.le_refl _,Au.segs_zero b,(by simp),(by simp;omega),HK.out,RowC.nil _ _ _ _ _,HR3.out,HO3.out,HB3.out⟩
   obtain ⟨ii,hi,hz0,hz1,hz2⟩:=info_parts Tryz.infoStr
   clear HK HR3 HO3 HB3 hC
   go_loopg [8,37] 256 (fun gg va vi wx=>∃(c N:Nat) (Z:List (Nat × Nat)) (κ:Nat→Nat) (ad:Option Addr) (cp:Nat),c≤256∧gg=256-c∧vi=.int .i64 c∧va=.slice ad N cp∧B≤wx.heap.size∧Hid (P2 b B C wx w c N Z κ (.slice ad N cp)))
   case atStart=>exact ⟨0,0,[],_,none,0,Nat.zero_le _,rfl,rfl,rfl,Nat.le_of_lt HP0.out.beg.lt,HP0⟩
   case round=>
    clear HP0
    obtain ⟨c,N,Z,κ,ad,cp,hc,rfl,rfl,rfl,hBr,hP⟩:=hrel
    have hNc:=hP.out.le
    have hNl:=hP.out.len
    by_cases hcm:c<256
    ·have j1:(c:Int)<256:=by omega
     have e1:=hP.out.beg.cell (i:=c) (by omega)
     by_cases hbc:c=0∨b c=true
     ·obtain ⟨z1,z2⟩:=Au.segs_new hP.out.segs hbc
      have HD:Hid (∀g cp w3,RowC (paint κ wr.heap.size 3) 3 w3 165 3 (.slice (some ⟨g,0,none⟩) (N+1) cp) (N+1) (segV Z++[.int .i64 (c:Int),.int .i64 0,.slice none 0 0])→Step κ 3 wr w3 (paint κ wr.heap.size 3)→_):=fun g cp w3 k1 k2=>hP.out.done (lo:=c) hcm hBr k2 k1 (by omega) (by omega) z1 z2
      rw [hNl] at HD
      have hAll:=lh hP.out.all
      have hg:((c:Int)==0)=true∨(((c:Int)==0)=false∧b c=true):=by
       rcases hbc with e | e
       ·exact .inl (beq_iff_eq.2 (by omega))
       ·by_cases e0:c=0
        ·exact .inl (beq_iff_eq.2 (by omega))
        ·exact .inr ⟨beq_eq_false_iff_ne.2 (by omega),e⟩
      clear hP hbc z1 z2
      rcases hg with g0 | ⟨g0,g1⟩
      rotate_left
      rw [g1] at e1
      all_goals
       go_wp2_with (at_builtin;refine wpList_pushC rfl _ _ 162 165 rfl ii _ 3 40 Tryz.underlying162 hi hz0 hz1 hz2 rfl (by decide) κ 3 _ N (segV Z) rfl hAll.out [.int .i64 (c:Int),.int .i64 0,.slice none 0 0] rfl (one_of rfl) rfl (by omega) (by omega) ?_;intro g2 cp2 w3 hr3 hs3;obtain ⟨⟨k1,k2,k3,k4,k5⟩,hP3⟩:=HD.out g2 cp2 w3 hr3 hs3;have HP3:=lh hP3;have hB3:B≤w3.heap.size:=Nat.le_trans hBr hs3.size;clear hr3 hs3 hP3)
       go_roundg (256-(c+1))
       case rel=>exact ⟨c+1,N+1,_,_,_,cp2,by omega,rfl,by go_num,rfl,(by simpa [World.setCell] using hB3),HP3⟩
       case measure=>omega
     ·have hc0:c≠0:=fun e=>hbc (.inl e)
      have hbf:b c=false:=by
       rw [←Bool.not_eq_true]
       exact fun e=>hbc (.inr e)
      obtain ⟨Y,z,rfl,z1,z2⟩:=Au.segs_more hP.out.segs hc0 hbf
      have hYl:Y.length+1=N:=by rw [←hNl,List.length_append];rfl
      have hAll:=hP.out.all
      obtain ⟨a5,cp5,hv5,_,_,hf5⟩:=hAll.form
      simp only [Value.slice.injEq] at hv5
      obtain ⟨rfl,_,rfl⟩:=hv5
      obtain ⟨g2,rfl,_,_,_,_⟩:=hf5 (by omega)
      rw [segV_snoc] at hAll
      have hD:=hP.out.done (lo:=z.1) (x:=.int .i64 (z.2:Int)) (Y:=Y) (N':=N) (g:=g2) (cp:=cp) (κ':=κ) hcm hBr ⟨rfl,rfl,rfl,Nat.le_refl _,fun _ _ _=>rfl,fun _ _=>rfl⟩ hAll (by omega) (by omega) z1 (by rw [List.length_append] at z2;simp at z2;omega)
      obtain ⟨⟨k1,k2,k3,k4,k5⟩,hP3⟩:=hD
      have HP3:=lh hP3
      have g0:((c:Int)==0)=false:=beq_eq_false_iff_ne.2 (by omega)
      rw [hbf] at e1
      obtain ⟨yl,hyl⟩:∃yl,Y.length=yl:=⟨_,rfl⟩
      obtain rfl:N=yl+1:=by omega
      rw [hyl] at HP3 k3 k4 k5
      clear hP hP3 hbc z1 z2 hAll hf5 hNl hYl hbf hc0 hyl
      go_wp2_with fail
      go_roundg (256-(c+1))
      case rel=>exact ⟨c+1,yl+1,_,_,_,cp,by omega,rfl,by go_num,rfl,(by simpa [World.setCell] using hBr),HP3⟩
      case measure=>omega
    ·obtain rfl:c=256:=by omega
     obtain ⟨Y0,hY0⟩:∃Y0:List (Nat × Nat × Value),Y0=Z.map fun z=>(z.1,z.2,Value.slice none 0 0):=⟨_,rfl⟩
     have H30:Hid (P3 b C wr w B N Z Y0 (fun _=>[]) κ (.slice ad N cp)):=by
      have h:=hP.out
      refine ⟨h.kC,h.lo,?_,?_,?_,?_,h.of.congr fun j hj=>by rw [if_pos hj],h.below⟩
      ·rw [hY0,List.length_map];exact h.len
      ·rw [hY0,List.map_map]
       show List.map (fun z=>(z.1,z.2)) Z=Z
       simp
      ·rw [hY0,strV_none];exact h.all
      ·intro i hi
       have:(Y0[i]'hi).2.2=.slice none 0 0:=by simp only [hY0,List.getElem_map]
       rw [this]
       exact RowC.nil _ _ _ _ _
     have hSg:=lh hP.out.segs
     have hN256:N≤256:=hP.out.le
     have hBr2:B≤wr.heap.size:=hBr
     clear hP hY0
     go_wp2_with fail
     have H31:Hid (P3 b C wr w B N Z Y0 (Au.tos b (L.take 0).flatten) κ (.slice ad N cp)):=by rw [List.take_zero];exact H30
     clear H30
     go_loopg [67] i (fun gg vi wx=>∃(x:Nat) (Y:List (Nat × Nat × Value)) (κ:Nat→Nat),x≤i∧gg=i-x∧vi=.int .i64 x∧B≤wx.heap.size∧Hid (P3 b C wx w B N Z Y (Au.tos b (L.take x).flatten) κ (.slice ad N cp)))
     case atStart=>exact ⟨0,_,_,Nat.zero_le _,rfl,rfl,hBr2,H31⟩
     case round=>
      clear H31 hBr2
      obtain ⟨x,Y,κ,hx,rfl,rfl,hBr2,hP⟩:=hrel
      by_cases hxi:x<i
      ·have j1:(x:Int)<(i:Int):=by omega
       have hil:x<L.length:=by rw [←HN.out];exact hxi
       obtain ⟨g,o,rfl,hg,_,hcl⟩:=HC.out (by omega)
       obtain ⟨va,c1,hva⟩:=hcl x hil
       have e1:=(hP.out.below.cell (p:=⟨g,o+x,none⟩) (by rw [←hB];exact hg)).trans c1
       have hAL:Hid (∀a∈L[x],Au.byteArc a∧(a.lo.toNat=0∨b a.lo.toNat=true)∧b (a.hi.toNat+1)=true):=fun a ha=>by
        have h1:=HLA.out _ (List.getElem_mem hil) a ha
        have h2:a∈L.flatten:=List.mem_flatten.2 ⟨_,List.getElem_mem hil,ha⟩
        rw [HBM.out]
        exact ⟨h1,.inr (Au.marks_lo h2 h1.1),Au.marks_hi h2 (by have:=h1.1;have:=h1.2.1;omega)⟩
       have hnx:Hid ((L.take (x+1)).flatten=(L.take x).flatten++L[x]):=by
        show _=_
        rw [List.take_succ_eq_append_getElem hil,List.flatten_append]
        simp
       have hAn:(L.take x).flatten.length+L[x].length≤1099511627776:=by
        have h1:((L.take (x+1)).flatten).length≤L.flatten.length:=by
         have h2:L.flatten=(L.take (x+1)).flatten++(L.drop (x+1)).flatten:=by rw [←List.flatten_append,List.take_append_drop]
         rw [h2,List.length_append]
         omega
        rw [hnx.out,List.length_append] at h1
        omega
       generalize L[x]=l at *
       generalize (L.take x).flatten=A at *
       obtain ⟨a2,cap2,rfl,hd1,hd2,hd⟩:=hva
       obtain ⟨m,hm⟩:∃m,m=l.length:=⟨_,rfl⟩
       have hm2:m≤9223372036854775807:=by omega
       have HD:=lh hd
       have HM:=lh hm
       rw [←hm] at e1
       have hP1:Hid (P3 b C wr w B N Z Y (Au.tos b (A++l.take 0)) κ (.slice ad N cp)):=by rw [List.take_zero,List.append_nil];exact hP
       clear c1 hcl hd hd1 hm hP
       go_wp2_with fail
       go_loopg [73] m (fun gg vk wx=>∃(k:Nat) (Y:List (Nat × Nat × Value)) (κ:Nat→Nat),k≤m∧gg=m-k∧vk=.int .i64 k∧B≤wx.heap.size∧Hid (P3 b C wx w B N Z Y (Au.tos b (A++l.take k)) κ (.slice ad N cp)))
       case atStart=>exact ⟨0,_,_,Nat.zero_le _,rfl,rfl,hBr2,hP1⟩
       case round=>
        clear hP1 hBr2 e1
        obtain ⟨k,Y,κ,hk,rfl,rfl,hBr2,hP⟩:=hrel
        by_cases hkm:k<m
        ·have kl:k<l.length:=by rw [←HM.out];exact hkm
         have j2:(k:Int)<(m:Int):=by omega
         obtain ⟨g2,o2,rfl,hg2,_,hcl2⟩:=HD.out (by omega)
         obtain ⟨d1,d2,d3⟩:=hcl2 k kl
         have e1:=(hP.out.below.cell (p:=⟨g2,o2+k*3,none⟩) (by rw [←hB];exact hg2)).trans d1
         have e2:=(hP.out.below.cell (p:=⟨g2,o2+k*3+1,none⟩) (by rw [←hB];exact hg2)).trans d2
         have e3:=(hP.out.below.cell (p:=⟨g2,o2+k*3+2,none⟩) (by rw [←hB];exact hg2)).trans d3
         obtain ⟨⟨y1,y2,y3⟩,y4,y5⟩:=hAL.out _ (List.getElem_mem kl)
         have hst:Hid (∀x,Au.tos b (A++l.take (k+1)) x=if Au.cnt b l[k].lo.toNat≤x∧x≤Au.cnt b l[k].hi.toNat then Au.tos b (A++l.take k) x++[l[k].to] else Au.tos b (A++l.take k) x):=fun x=>by
          rw [List.take_succ_eq_append_getElem kl,←List.append_assoc,Au.tos_snoc]
         have hlen:∀x,(Au.tos b (A++l.take k) x).length≤1099511627776:=fun x=>by
          have:=Au.tos_len b (A++l.take k) x
          rw [List.length_append] at this
          have:=List.length_take_le k l
          omega
         clear d1 d2 d3 hcl2
         generalize l[k]=ar at *
         obtain ⟨lo,hi',to⟩:=ar
         dsimp only at e1 e2 e3 hst y1 y2 y3
         obtain ⟨p,rfl⟩:∃p:Nat,lo=(p:Int):=⟨lo.toNat,by omega⟩
         obtain ⟨q,rfl⟩:∃q:Nat,hi'=(q:Int):=⟨hi'.toNat,by omega⟩
         simp only [Int.toNat_natCast] at hst
         have q255:q<256:=by omega
         have p255:p<256:=by omega
         have hpq:Au.cnt b p≤Au.cnt b q:=Au.cnt_le b (by omega)
         have hqN:Au.cnt b q<N:=by
          have h1:=hSg.out.len
          rw [if_neg (by omega)] at h1
          have h2:=Au.cnt_le b (show q≤256-1 by omega)
          omega
         obtain ⟨D,hDD⟩:∃D,wr.heap.size=D:=⟨_,rfl⟩
         have sA:Step κ 9 wr (wr.alloc (.cells #[.int .i64 (p:Int),.int .i64 (q:Int),.int .i64 to] 71)) (paint κ wr.heap.size 9):=Step.of_alloc _ _
         have hP2:=hP.out.step sA (by decide) (by decide) (by decide) (by decide) hBr2
         have hkD:paint κ wr.heap.size 9 D=9:=paint_new _ _ _ _ (by omega)
         generalize paint κ wr.heap.size 9=κ1 at *
         have hDb:Hid ((wr.alloc (.cells #[.int .i64 (p:Int),.int .i64 (q:Int),.int .i64 to] 71)).heap[D]?=some (.cells #[.int .i64 (p:Int),.int .i64 (q:Int),.int .i64 to] 71 (0,0))):=by rw [←hDD];exact Go.Deep.blk_alloc_new _ _
         have hBA:B≤(wr.alloc (.cells #[.int .i64 (p:Int),.int .i64 (q:Int),.int .i64 to] 71)).heap.size:=by simp;omega
         have f1:=hP2.of.cell (i:=p) p255
         have HP2:=lh hP2
         obtain ⟨cq,hcq⟩:∃cq,Au.cnt b q=cq:=⟨_,rfl⟩
         obtain ⟨cpp,hcpp⟩:∃cpp,Au.cnt b p=cpp:=⟨_,rfl⟩
         have HCQ:=lh hcq
         rw [hcq] at hqN
         rw [hcpp] at f1
         have hst2:Hid (∀x,Au.tos b (A++l.take (k+1)) x=if cpp≤x∧x≤cq then Au.tos b (A++l.take k) x++[to] else Au.tos b (A++l.take k) x):=fun x=>by subst hcq;subst hcpp;exact hst.out x
         rw [hcq,hcpp] at hpq
         clear hP hP2 sA y4 y5 hst hcq hcpp
         obtain ⟨T0,hT0⟩:∃T0,T0=Au.tos b (A++l.take k):=⟨_,rfl⟩
         rw [←hT0] at hlen HP2 hst2
         have HP3:Hid (P3 b C (wr.alloc (.cells #[.int .i64 (p:Int),.int .i64 (q:Int),.int .i64 to] 71)) w B N Z Y (fun i=>if cpp≤i∧i<cpp then T0 i++[to] else T0 i) κ1 (.slice ad N cp)):=by
          have:(fun i=>if cpp≤i∧i<cpp then T0 i++[to] else T0 i)=T0:=funext fun i=>if_neg (by omega)
          rw [this]
          exact HP2
         clear HP2 hT0
         obtain ⟨aa,cpa,hva,_,_,hfa⟩:=HP3.out.all.form
         simp only [Value.slice.injEq] at hva
         obtain ⟨rfl,_,rfl⟩:=hva
         obtain ⟨ga,rfl,_⟩:=hfa (by omega)
         have c9:(wr.alloc (.cells #[.int .i64 (p:Int),.int .i64 (q:Int),.int .i64 to] 71)).cell? ⟨D,0,none⟩=some (.int .i64 (p:Int)):=by have h:=hDb.out;simp [World.cell?,h]
         clear hfa
         go_wp2_with fail
         generalize wr.alloc (.cells #[.int .i64 (p:Int),.int .i64 (q:Int),.int .i64 to] 71)=wa at *
         obtain ⟨i1,hi1,hy0,hy1,hy2⟩:=info_parts Tryz.infoN
         go_loopg [15] (cq+1-cpp) (fun gg vj wx=>∃(j:Nat) (Y:List (Nat × Nat × Value)) (κ:Nat→Nat),cpp≤j∧j≤cq+1∧gg=cq+1-j∧vj=.int .i64 j∧B≤wx.heap.size∧κ D=9∧Hid (wx.heap[D]?=some (.cells #[.int .i64 (p:Int),.int .i64 (q:Int),.int .i64 to] 71 (0,0)))∧Hid (P3 b C wx w B N Z Y (fun i=>if cpp≤i∧i<j then T0 i++[to] else T0 i) κ (.slice (some ⟨ga,0,none⟩) N cp)))
         case atStart=>exact ⟨cpp,_,_,Nat.le_refl _,by omega,rfl,rfl,hBA,hkD,hDb,HP3⟩
         case round=>
          clear HP3 hkD hDb f1 c9 hBA
          obtain ⟨j,Y,κ,hj1,hj2,rfl,rfl,hBA,hkD,hDb,hP⟩:=hrel
          have hof:=hP.out.of.cell (i:=q) q255
          rw [HCQ.out] at hof
          have a1:wr.cell? ⟨D,1,none⟩=some (.int .i64 (q:Int)):=by have h:=hDb.out;simp [World.cell?,h]
          have a2:wr.cell? ⟨D,2,none⟩=some (.int .i64 to):=by have h:=hDb.out;simp [World.cell?,h]
          by_cases hjq:j≤cq
          ·have j3:(j:Int)≤(cq:Int):=by omega
           have j4:(j:Int)<(N:Int):=by omega
           have hjY:j<Y.length:=by rw [hP.out.len];omega
           obtain ⟨x1,x2,_,_,x3,x4⟩:=hP.out.all.at
           obtain ⟨_,_,y3'⟩:=strV_at Y j hjY
           have r1:=x4 _ _ y3'
           have hTj:(if cpp≤j∧j<j then T0 j++[to] else T0 j)=T0 j:=if_neg (by omega)
           have hrow:=hP.out.to j hjY
           rw [hTj] at hrow
           have HROW:=lh hrow
           have hlj:=hlen j
           have hPU:Hid (∀g cp' w3,RowC (paint κ wr.heap.size (10+j)) (10+j) w3 3 1 (.slice (some ⟨g,0,none⟩) ((T0 j).length+1) cp') ((T0 j).length+1) (intsV (T0 j)++[.int .i64 to])→Step κ (10+j) wr w3 (paint κ wr.heap.size (10+j))→_):=fun g cp' w3 k1 k2=>hP.out.push (n:=(T0 j).length+1) (to:=to) hBA hjY (by simp only [hTj];exact k1) (by simp only [hTj]) k2
           simp only [hTj] at hPU
           have hDK:Hid (∀(κ':Nat→Nat) w5,Step κ (10+j) wr w5 κ'→∀ga,κ' ga=3→∀(x:Nat) u,w5.cell? ⟨D,2,none⟩=some (.int .i64 to)∧κ' D=9∧(w5.setCell ⟨ga,x,none⟩ u).heap[D]?=some (.cells #[.int .i64 (p:Int),.int .i64 (q:Int),.int .i64 to] 71 (0,0))∧B≤(w5.setCell ⟨ga,x,none⟩ u).heap.size):=fun κ' w5 hs ga hga x u=>by
            have hDl:D<wr.heap.size:=(Array.getElem?_eq_some_iff.1 hDb.out).1
            have h5:=(hs.block D hDl (by rw [hkD];omega)).trans hDb.out
            have hkD':κ' D=9:=by rw [hs.col D hDl,hkD]
            refine ⟨by simp [World.cell?,h5],hkD',?_,?_⟩
            ·rw [heap_other _ _ _ _ _ (fun e=>by rw [e,hga] at hkD';exact absurd hkD' (by decide))]
             exact h5
            ·simp only [World.setCell]
             have:=hs.size
             simp
             omega
           have hst3:Hid (∀wz Yz κz,P3 b C wz w B N Z Yz (fun i=>if i=j then T0 j++[to] else if cpp≤i∧i<j then T0 i++[to] else T0 i) κz (.slice (some ⟨ga,0,none⟩) N cp)→P3 b C wz w B N Z Yz (fun i=>if cpp≤i∧i<j+1 then T0 i++[to] else T0 i) κz (.slice (some ⟨ga,0,none⟩) N cp)):=fun wz Yz κz h=>by
            have:(fun i=>if i=j then T0 j++[to] else if cpp≤i∧i<j then T0 i++[to] else T0 i)=(fun i=>if cpp≤i∧i<j+1 then T0 i++[to] else T0 i):=funext fun i=>by
             by_cases e:i=j
             ·subst e
              rw [if_pos rfl,if_pos (by omega)]
             ·rw [if_neg e]
              by_cases h2:cpp≤i∧i<j
              ·rw [if_pos h2,if_pos (by omega)]
              ·rw [if_neg h2,if_neg (by omega)]
            rw [←this]
            exact h
           have hBE:Hid (Below wr.heap.size wr ((wr.alloc (.cells #[.int .i64 to] 3)).drew)):=((Below.refl _ _).alloc (Nat.le_refl _) _).drew
           have hnw:Hid (∀(x:Nat) (u:Value),[Value.int .i64 to][x]?=some u→((wr.alloc (.cells #[.int .i64 to] 3)).drew).cell? ((⟨wr.heap.size,0,none⟩:Addr).add x)=some u):=fun x u h=>new_cells wr [.int .i64 to] _ x u h
           clear hP hrow y3' x4 x3 hTj
           generalize Y[j].2.2=vj at *
           go_wp2_with fail
           go_region_law ((refine step_pushC rfl _ _ 82 3 (by rfl) i1 _ 1 8 Tryz.underlying82 hi1 hy0 hy1 hy2 rfl (by decide) κ (10+j) _ (T0 j).length (intsV (T0 j)) (by rfl) HROW.out hBE.out [.int .i64 to] rfl (one_of rfl) ⟨wr.heap.size,0,none⟩ hnw.out (by rfl) (by omega) (by omega) ?_;intro g5 cp5 w5 hr5 hs5;obtain ⟨⟨k1,k2⟩,hP5,k4⟩:=hPU.out g5 cp5 w5 hr5 hs5;obtain ⟨k3,hk5,hD5,hB5⟩:=hDK.out _ _ hs5 ga k4 (j*3+2) (.slice (some ⟨g5,0,none⟩) ((T0 j).length+1) cp5);have HP5:=lh (hst3.out _ _ _ hP5);have HD5:=lh hD5;clear hr5 hs5 hP5 hD5))
           all_goals
            go_wp2_with fail
            go_roundg (cq+1-(j+1))
            case rel=>exact ⟨j+1,_,_,by omega,by omega,rfl,by go_num,hB5,hk5,HD5,HP5⟩
            case measure=>omega
          ·have hjq':j=cq+1:=by omega
           subst hjq'
           have j3:¬((cq+1:Nat):Int)≤(cq:Int):=by omega
           have hP6:Hid (P3 b C wr w B N Z Y (Au.tos b (A++l.take (k+1))) κ (.slice (some ⟨ga,0,none⟩) N cp)):=by
            have:(fun i=>if cpp≤i∧i<cq+1 then T0 i++[to] else T0 i)=Au.tos b (A++l.take (k+1)):=funext fun i=>by
             rw [hst2.out]
             by_cases h:cpp≤i∧i≤cq
             ·rw [if_pos h,if_pos (by omega)]
             ·rw [if_neg h,if_neg (by omega)]
            rw [←this]
            exact hP
           clear hP
           go_wp2_with fail
           go_roundg (m-(k+1))
           case rel=>exact ⟨k+1,_,_,by omega,rfl,by go_num,hBA,hP6⟩
           case measure=>omega
        ·obtain rfl:k=m:=by omega
         have hR2:Hid (P3 b C wr w B N Z Y (Au.tos b (L.take (x+1)).flatten) κ (.slice ad N cp)):=by
          have h:=hP.out
          rw [List.take_of_length_le (by rw [←HM.out];exact Nat.le_refl _),←hnx.out] at h
          exact h
         clear hP
         go_wp2_with fail
         go_roundg (i-(x+1))
         case rel=>exact ⟨x+1,_,_,by omega,rfl,by go_num,hBr2,hR2⟩
         case measure=>omega
      ·obtain rfl:x=i:=by omega
       have hP2:=hP.out
       rw [List.take_of_length_le (by rw [←HN.out];exact Nat.le_refl _)] at hP2
       obtain ⟨aa,cpa,hva,_,_,hfa⟩:=hP2.all.form
       simp only [Value.slice.injEq] at hva
       obtain ⟨rfl,_,rfl⟩:=hva
       have hN0:0<N:=by
        have h1:=hSg.out.len
        rw [if_neg (by omega)] at h1
        omega
       obtain ⟨ga,rfl,_⟩:=hfa hN0
       have hYt:∀y∈Y,isTo y.2.2:=fun y hy=>by
        obtain ⟨j,hj,rfl⟩:=List.getElem_of_mem hy
        obtain ⟨a7,c7,h7,h8,h9,_⟩:=(hP2.to j hj).form
        exact ⟨a7,_,c7,h7,by omega⟩
       have HDF:=lh (deleteFunc_any κ wr ga N cp Y hP2.len hP2.all hYt)
       rw [HBM.out] at hP2 hSg
       have HF:Hid (∀e w',Deleted wr ga cp Y e w'→∃u S,e=.returned u∧Au.Cut L.flatten 0 S∧StrS (fun g=>w.heap.size≤g) w' u S∧Below w.heap.size w w'):=fun e w' hd=>hP2.done hSg.out HLA.out hB.symm hBr2 hd
       clear hP hP2 hfa hYt
       go_wp2_with fail
       refine HDF.out.mono ?_
       intro e w8 hd
       obtain ⟨u8,S8,rfl,h81,h82,h83⟩:=HF.out e w8 hd
       have H81:=lh h81
       have H82:=lh h82
       have H83:=lh h83
       clear hd h81 h82 h83
       go_wp2_with fail
       go_ret
       exact ⟨_,S8,rfl,H81.out,by first | exact H82.out | (rw [←hB];exact H82.out),by first | exact H83.out | (rw [←hB];exact H83.out)⟩
end
end Go.Proofs.YtmdefnbpimfbgaaGreatDoor

/-
  Lemmas on automata, dictionaries and the walk over them, the program's calls and the given ones.
-/
import Derived.Test.YtmdefnbpimfbgaaGreatDoorQ3
import Derived.Deep.DeepCutAuto
import Derived.StillTailTactics
import Derived.Shelf.Strings.OnBuilder
import Derived.Shelf.Small.Bits
import Derived.Shelf.Small.Strs
import Derived.Shelf.Small.Wraps
import Derived.Shelf.Utf8.AppendRune
import Derived.Shelf.Utf8.AppendRunePlain
import Derived.Shelf.Utf8.RuneCount
import Derived.Shelf.Sort.Plain
import Derived.Shelf.Strings.RuneCount
import Derived.Shelf.Slices.Turned
import Derived.Shelf.Slices.Clone
import Derived.Shelf.Slices.In.SortNone
import Derived.Laws.DeepNot64
set_option maxRecDepth 100000
set_option maxHeartbeats 16000000
namespace Go.Proofs.YtmdefnbpimfbgaaGreatDoor
section
open Go.RowKit
namespace Au
theorem row_few2 {n:Nat} {c:Int} {l:List Arc} (h:Row n c l):(l.length:Int)≤max c 0:=by
 have hk:∀k (hk:k<l.length),(k:Int)≤l[k].lo:=by
  intro k
  induction k with
  | zero=>intro hk;exact (h.1 0 hk).1
  | succ k ih=>
   intro hk
   have:=ih (by omega)
   have:=h.1 k (by omega)
   have:=h.2 k hk
   omega
 by_cases h0:l.length=0
 ·omega
 ·have:=hk (l.length-1) (by omega)
  have:=h.1 (l.length-1) (by omega)
  omega
theorem flat_le2 {L:List (List Arc)} {m:Nat} (h:∀l∈L,l.length≤m):L.flatten.length≤L.length*m:=by
 induction L with
 | nil=>simp
 | cons a r ih=>
  rw [List.flatten_cons,List.length_append,List.length_cons,Nat.succ_mul]
  have h1:=h a (List.mem_cons_self ..)
  have h2:=ih fun l hl=>h l (List.mem_cons_of_mem _ hl)
  omega
theorem back_few {d:List St} (hr:∀i (h:i<d.length),Row d.length 256 d[i].arcs) (t:Nat):(back d t).length≤d.length*256:=by
 unfold back
 rw [List.flatMap_def]
 have:=flat_le2 (L:=(List.range d.length).map fun i=>backRow (arcsOf d i) t i) (m:=256) fun l hl=>by
  obtain ⟨i,_,rfl⟩:=List.mem_map.1 hl
  have h1:(backRow (arcsOf d i) t i).length≤(arcsOf d i).length:=by
   unfold backRow
   rw [List.length_map]
   exact List.length_filter_le ..
  have h2:=row_few2 (arcsOf_row hr i)
  omega
 simpa using this
end Au
theorem Tryz.infoAs2:(Tryz.prog.info? 59).map (fun i=>(i.zero,i.size,i.bytes))=some (some (.slice none 0 0),1,24):=by kernel_rfl
end
section
open Go.RowKit
namespace Au
theorem backTo_few {d:List St} (hr:∀i (h:i<d.length),Row d.length 256 d[i].arcs) (i k t:Nat) (hi:i≤20000) (hk:k≤256):(backTo d i k t).length≤6000000:=by
 have h1:=backTo_len d i k t
 rw [List.flatMap_def] at h1
 have h2:=flat_le2 (L:=(List.range i).map fun j=>arcsOf d j) (m:=256) fun l hl=>by
  obtain ⟨j,_,rfl⟩:=List.mem_map.1 hl
  have:=row_few2 (arcsOf_row hr j)
  omega
 rw [List.length_map,List.length_range] at h2
 omega
theorem backTo_put (d:List St) (i k t0:Nat) (h:k<(arcsOf d i).length) (ht:(arcsOf d i)[k].to=(t0:Int)):(fun j=>if j=t0 then backTo d i k t0++[⟨(arcsOf d i)[k].lo,(arcsOf d i)[k].hi,(i:Int)⟩] else backTo d i k j)=backTo d i (k+1):=by
 funext j
 rw [backTo_step d i k j h,ht]
 by_cases e:j=t0
 ·subst e;rw [if_pos rfl,if_pos rfl]
 ·rw [if_neg e,if_neg (by omega)]
end Au
structure BkS (w0 w:World) (κ:Nat→Nat) (g n:Nat) (x:Nat→Value) (T:Nat→List Au.Arc):Prop where
 row:w.rowIs g 59 n x
 kg:κ g=1
 each:∀t,t<n→RowC κ (10+t) w 71 3 (x t) (T t).length (arcsV (T t))
 lo:LoB κ w w0.heap.size
 below:Below w0.heap.size w0 w
section
variable {w0 w w':World} {κ κ':Nat→Nat} {g n c:Nat} {x:Nat→Value} {T:Nat→List Au.Arc}
theorem BkS.start (w0:World) (n:Nat):BkS w0 (w0.alloc (.cells (madeCells #[.slice none 0 0] n) 59)) (fun k=>if k=w0.heap.size then 1 else 0) w0.heap.size n (fun _=>.slice none 0 0) (fun _=>[]):=by
 refine ⟨World.rowIs_made w0 _ n _,if_pos rfl,fun t _=>RowC.nil _ _ _ _ _,fun k hk hc=>?_,(Below.refl _ _).alloc (Nat.le_refl _) _⟩
 change (if _ then _ else _)≠0 at hc
 split at hc
 ·omega
 ·exact absurd rfl hc
theorem BkS.step (h:BkS w0 w κ g n x T) (hs:Step κ c w w' κ') (h1:c≠1) (h0:c≠0) (h10:c<10):BkS w0 w' κ' g n x T:=
 ⟨h.row.of_block (hs.block g h.row.lt (by rw [h.kg];exact fun e=>h1 e.symm)),(hs.col g h.row.lt).trans h.kg,fun t ht=>(h.each t ht).step hs (by omega),h.lo.step hs h.below.size,hs.below h.lo h0 h.below h.below.size⟩
theorem BkS.push {w3:World} {t g' m cp:Nat} {a:Au.Arc} (h:BkS w0 w κ g n x T) (ht:t<n) (hr:RowC κ' (10+t) w3 71 3 (.slice (some ⟨g',0,none⟩) m cp) m (arcsV (T t)++[.int .i64 a.lo,.int .i64 a.hi,.int .i64 a.to])) (hm:m=(T t).length+1) (hs:Step κ (10+t) w w3 κ'):
  (w3.cell? ⟨g,t,none⟩=some (x t)∧w3.frozen? ⟨g,t,none⟩=false) ∧
  BkS w0 (w3.setCell ⟨g,t,none⟩ (.slice (some ⟨g',0,none⟩) m cp)) κ' g n (fun j=>if j=t then .slice (some ⟨g',0,none⟩) m cp else x j) (fun j=>if j=t then T t++[a] else T j):=by
 have hrow:w3.rowIs g 59 n x:=h.row.of_block (hs.block g h.row.lt (by rw [h.kg];omega))
 have hk:κ' g=1:=(hs.col g h.row.lt).trans h.kg
 have hs2:Step κ' 1 w3 (w3.setCell ⟨g,t,none⟩ (.slice (some ⟨g',0,none⟩) m cp)) κ':=Step.of_set w3 g t _ hk
 have hlo:=h.lo.step hs h.below.size
 have hbe:=hs.below h.lo (by omega) h.below h.below.size
 refine ⟨⟨hrow.cell ht,hrow.frozen t⟩,hrow.set t _,hk,fun j hj=>?_,hlo.step hs2 hbe.size,hs2.below hlo (by decide) hbe hbe.size⟩
 by_cases e:j=t
 ·subst e
  rw [if_pos rfl,if_pos rfl,List.length_append,←arcsV_snoc,show (T j).length+[a].length=m from hm.symm]
  exact hr.step hs2 (by omega)
 ·rw [if_neg e,if_neg e]
  exact ((h.each j hj).step hs (by omega)).step hs2 (by omega)
theorem BkS.rows {d:List Au.St} (h:BkS w0 w κ g n x (Au.back d)) (hn:n≤9223372036854775807):RowsS (fun g=>w0.heap.size≤g) w (.slice (some ⟨g,0,none⟩) n n) ((List.range n).map (Au.back d)):=by
 have hl:((List.range n).map (Au.back d)).length=n:=by simp
 refine ⟨some ⟨g,0,none⟩,n,by rw [hl],by rw [hl];exact Nat.le_refl _,hn,fun _=>⟨g,0,rfl,h.row.lt,h.lo g h.row.lt (by rw [h.kg];decide),fun j hj=>?_⟩⟩
 have hj':j<n:=by rw [hl] at hj;exact hj
 refine ⟨x j,by rw [Nat.zero_add];exact h.row.cell hj',?_⟩
 rw [List.getElem_map,List.getElem_range]
 have hr:=h.each j hj'
 obtain ⟨a,cap,h1,h2,h3,h4⟩:=hr.form
 refine ⟨a,cap,h1,h2,h3,fun h0=>?_⟩
 obtain ⟨g',h5,h6,h7,_,h8⟩:=h4 h0
 refine ⟨g',0,h5,h6,h.lo g' h6 (by rw [h7];omega),fun k hk=>?_⟩
 obtain ⟨q1,q2,q3⟩:=arcsV_at (Au.back d j) k hk
 rw [Nat.zero_add]
 exact ⟨h8 _ _ q1,h8 _ _ q2,h8 _ _ q3⟩
end
theorem backward_any (F:Nat→Prop) (w:World) (u:Value) (d:List Au.St) (n:Nat) (hd:d.length=n) (hf:Au.Fits d) (hu:StS F w u d):
  Calls Tryz.prog 58 #[u] w fun e w'=>∃v,e=.returned v∧RowsS (fun g=>w.heap.size≤g) w' v ((List.range n).map (Au.back d))∧Below w.heap.size w w':=by
 have hn2:n≤20000:=by have:=hf.top;omega
 have hn0:0<n:=by have:=hf.pos;omega
 obtain ⟨ad,cd,rfl,_,_,hdc⟩:=hu
 obtain ⟨gd,od,rfl,lgd,_,hdc⟩:=hdc (by omega)
 have HDC:=lh hdc
 have HDN:=lh hd
 have HROW:=lh (Au.arcsOf_row hf.row)
 have HFEW:=lh (fun i k t=>Au.backTo_few hf.row i k t)
 have hmk:=run_make_row' (P:=Tryz.prog) 105 59 (.slice none 0 0) 24 Tryz.underlying105 Tryz.infoAs2 rfl .i64 .i64 n (by omega) (by omega)
 have H0:Hid (BkS w (w.alloc (.cells (madeCells #[.slice none 0 0] n) 59)) (fun k=>if k=w.heap.size then 1 else 0) w.heap.size n (fun _=>.slice none 0 0) (Au.backTo d 0 0)):=by
  have:Au.backTo d 0 0=fun _=>[]:=funext fun t=>Au.backTo_zero d t
  rw [this]
  exact BkS.start w n
 rw [hd]
 clear hdc hd hf
 go_enter Tryz.func58,Tryz.ntmps58
 go_wp2_with fail
 generalize w.alloc (.cells (madeCells #[.slice none 0 0] n) 59)=w1 at *
 go_loopg [13] n (fun gg s13 wx=>∃(i:Nat) (κ:Nat→Nat) (x:Nat→Value),i≤n∧gg=n-i∧s13=.int .i64 i∧Hid (BkS w wx κ w.heap.size n x (Au.backTo d i 0)))
 case atStart=>exact ⟨0,_,_,Nat.zero_le _,rfl,rfl,H0⟩
 case round=>
  clear H0
  obtain ⟨i,κ,x,hi,rfl,rfl,hP⟩:=hrel
  by_cases hin:i<n
  ·have j1:(i:Int)<(n:Int):=by omega
   have hid:i<d.length:=by rw [HDN.out];exact hin
   obtain ⟨c1,va,c2,hA⟩:=HDC.out i hid
   have hbl:=hP.out.below
   have e1:=(cell_same (a:=⟨gd,od+i*2,none⟩) (hbl.block gd lgd)).trans c1
   have e2:=(cell_same (a:=⟨gd,od+i*2+1,none⟩) (hbl.block gd lgd)).trans c2
   have hao:Au.arcsOf d i=d[i].arcs:=by simp [Au.arcsOf,List.getElem?_eq_getElem hid]
   rw [←hao] at hA
   have hrw:Hid (Au.Row n 256 (Au.arcsOf d i)):=by
    have h:=HROW.out i
    rw [HDN.out] at h
    exact h
   generalize d[i].fin=fin at *
   have hm2:(Au.arcsOf d i).length≤256:=by have:=Au.row_few2 hrw.out;omega
   obtain ⟨aa,ca,rfl,_,_,hac⟩:=hA
   obtain ⟨m,hm⟩:∃m,m=(Au.arcsOf d i).length:=⟨_,rfl⟩
   have HM:=lh hm
   have HAC:=lh hac
   rw [←hm] at hm2 e2
   have h1:=hP.out.step (Step.of_alloc (c:=2) wr (.cells #[.bool fin,.slice aa m ca] 61)) (by decide) (by decide) (by decide)
   have HP1:=lh h1
   clear hac hm hP h1 c1 c2 hbl hao
   go_wp2_with fail
   generalize wr.alloc (.cells #[.bool fin,.slice aa m ca] 61)=w2 at *
   generalize paint κ wr.heap.size 2=κ2 at *
   go_loopg [21] m (fun gg s21 wx=>∃(k:Nat) (κ:Nat→Nat) (x:Nat→Value),k≤m∧gg=m-k∧s21=.int .i64 k∧Hid (BkS w wx κ w.heap.size n x (Au.backTo d i k)))
   case atStart=>exact ⟨0,_,_,Nat.zero_le _,rfl,rfl,HP1⟩
   case round=>
    clear HP1 e1 e2
    obtain ⟨k,κ,x,hk,rfl,rfl,hP⟩:=hrel
    by_cases hkm:k<m
    ·have j2:(k:Int)<(m:Int):=by omega
     have hkl:k<(Au.arcsOf d i).length:=by rw [←HM.out];exact hkm
     obtain ⟨g2,o2,rfl,lg2,_,hcc⟩:=HAC.out (by omega)
     obtain ⟨d1,d2,d3⟩:=hcc k hkl
     have hbl:=hP.out.below
     have e1:=(cell_same (a:=⟨g2,o2+k*3,none⟩) (hbl.block g2 lg2)).trans d1
     have e2:=(cell_same (a:=⟨g2,o2+k*3+1,none⟩) (hbl.block g2 lg2)).trans d2
     have e3:=(cell_same (a:=⟨g2,o2+k*3+2,none⟩) (hbl.block g2 lg2)).trans d3
     obtain ⟨y1,y2,y3,y4,y5⟩:=hrw.out.1 k hkl
     have hpt:=lh (fun t0=>Au.backTo_put d i k t0 hkl)
     have hfw:=HFEW.out i k
     clear d1 d2 d3 hcc
     generalize (Au.arcsOf d i)[k]=ar at *
     obtain ⟨lo,hi',ato⟩:=ar
     dsimp only at e1 e2 e3 hpt y1 y2 y3 y4 y5
     obtain ⟨t0,rfl⟩:∃t0:Nat,ato=(t0:Int):=⟨ato.toNat,by omega⟩
     have ht0:t0<n:=by omega
     have j3:(t0:Int)<(n:Int):=by omega
     have hl0:=hfw t0 (by omega) (by omega)
     have hpt:=lh (hpt.out t0 rfl)
     have h1:=hP.out.step (Step.of_alloc (c:=2) wr (.cells #[.int .i64 lo,.int .i64 hi',.int .i64 (t0:Int)] 71)) (by decide) (by decide) (by decide)
     obtain ⟨D,hDD⟩:∃D,wr.heap.size=D:=⟨_,rfl⟩
     have hkD:Hid (paint κ D 2 D=2):=paint_new _ _ _ _ (by omega)
     have hDb:Hid ((wr.alloc (.cells #[.int .i64 lo,.int .i64 hi',.int .i64 (t0:Int)] 71)).heap[D]?=some (.cells #[.int .i64 lo,.int .i64 hi',.int .i64 (t0:Int)] 71 (0,0))):=by rw [←hDD];exact Go.Deep.blk_alloc_new _ _
     have HP2:=lh h1
     clear hP h1 hbl hfw
     go_upto_region 8 with (fail)
     generalize wr.alloc (.cells #[.int .i64 lo,.int .i64 hi',.int .i64 (t0:Int)] 71)=wa at *
     rw [hDD] at HP2
     generalize paint κ D 2=κ3 at *
     have hDl:D<wa.heap.size:=(Array.getElem?_eq_some_iff.1 hDb.out).1
     have HDW:Hid (∀W:World,W.heap[D]?=wa.heap[D]?→W.cell? ⟨D,0,none⟩=some (.int .i64 lo)∧W.cell? ⟨D,1,none⟩=some (.int .i64 hi')∧W.cell? ⟨D,2,none⟩=some (.int .i64 (t0:Int))):=fun W hW=>by
      have h:=hW.trans hDb.out
      refine ⟨?_,?_,?_⟩ <;> simp [World.cell?,h]
     obtain ⟨a0,a1,a2⟩:=HDW.out wa rfl
     obtain ⟨b0,b1,b2⟩:=HDW.out wa.drew rfl
     obtain ⟨q0,q1,q2⟩:=HDW.out (wa.alloc (.cells #[.int .i64 lo,.int .i64 hi',.int .i64 (i:Int)] 71)).drew (Go.Deep.blk_alloc_lt wa _ _ hDl)
     obtain ⟨T,hT⟩:∃T,T=Au.backTo d i k:=⟨_,rfl⟩
     rw [←hT] at HP2 hpt hl0
     have hrr:Hid (RowC κ3 (10+t0) wa 71 3 (x t0) (T t0).length (arcsV (T t0))):=HP2.out.each t0 ht0
     have r1:=HP2.out.row.cell ht0
     have r2:wa.drew.cell? ⟨w.heap.size,t0,none⟩=some (x t0):=r1
     have r3:(wa.alloc (.cells #[.int .i64 lo,.int .i64 hi',.int .i64 (i:Int)] 71)).drew.cell? ⟨w.heap.size,t0,none⟩=some (x t0):=(HP2.out.row.alloc _).cell ht0
     have hPU:Hid (∀g cp' w3,RowC (paint κ3 wa.heap.size (10+t0)) (10+t0) w3 71 3 (.slice (some ⟨g,0,none⟩) ((T t0).length+1) cp') ((T t0).length+1) (arcsV (T t0)++[.int .i64 lo,.int .i64 hi',.int .i64 (i:Int)])→Step κ3 (10+t0) wa w3 (paint κ3 wa.heap.size (10+t0))→_):=fun g cp' w3 k1 k2=>HP2.out.push (a:=⟨lo,hi',(i:Int)⟩) ht0 k1 rfl k2
     have hDK:Hid (∀(κ':Nat→Nat) w5,Step κ3 (10+t0) wa w5 κ'→w5.heap[D]?=wa.heap[D]?):=fun κ' w5 hs=>hs.block D hDl (by rw [hkD.out];omega)
     have hBE:Hid (Below wa.heap.size wa ((wa.alloc (.cells #[.int .i64 lo,.int .i64 hi',.int .i64 (i:Int)] 71)).drew)):=((Below.refl _ _).alloc (Nat.le_refl _) _).drew
     have hnw:Hid (∀(j:Nat) (u:Value),[Value.int .i64 lo,.int .i64 hi',.int .i64 (i:Int)][j]?=some u→((wa.alloc (.cells #[.int .i64 lo,.int .i64 hi',.int .i64 (i:Int)] 71)).drew).cell? ((⟨wa.heap.size,0,none⟩:Addr).add j)=some u):=fun j u h=>new_cells wa [.int .i64 lo,.int .i64 hi',.int .i64 (i:Int)] _ j u h
     rw [hpt.out] at hPU
     have hDg:Hid (D≠w.heap.size):=fun e=>by
      have h1:=hkD.out
      have h2:=HP2.out.kg
      rw [e] at h1
      omega
     clear HP2 hT hDb hpt
     generalize x t0=vj at *
     obtain ⟨i1,hi1,hy0,hy1,hy2⟩:=info_parts Tryz.infoA
     refine wp_region_held_drew (S:=fun wx=>wx.cell? ⟨D,0,none⟩=some (.int .i64 lo)∧wx.cell? ⟨D,1,none⟩=some (.int .i64 hi')∧wx.cell? ⟨D,2,none⟩=some (.int .i64 (t0:Int))) (by kernel_rfl) ⟨b0,b1,b2⟩ (fun hHeld=>?_)
     refine wpAnyH_take (i:=0) (fuel:=17) (oi:=⟨_,_,_,_,_,_⟩) (v:=?_) rfl (by kernel_rfl) (by kernel_rfl) (by kernel_rfl) (fun _ _ _ h=>h) (Or.inl ⟨by rfl,?_⟩) (by assumption) ?_
     rotate_left
     ·intro w _
      first | (go_simp;done) | (go_simp;with_reducible rfl)
     simp only [Act.put,List.setIfInBounds_toArray,List.set_cons_zero,List.set_cons_succ]
     refine wpAnyH_take (i:=1) (fuel:=16) (oi:=⟨_,_,_,_,_,_⟩) (v:=?_) rfl (by kernel_rfl) (by kernel_rfl) (by kernel_rfl) (fun _ _ _ h=>h) (Or.inl ⟨by rfl,?_⟩) (by assumption) ?_
     rotate_left
     ·intro w _
      first | (go_simp;done) | (go_simp;with_reducible rfl)
     simp only [Act.put,List.setIfInBounds_toArray,List.set_cons_zero,List.set_cons_succ]
     refine wpAnyH_take (i:=2) (fuel:=15) (oi:=⟨_,_,_,_,_,_⟩) (v:=?_) rfl (by kernel_rfl) (by kernel_rfl) (by kernel_rfl) (fun _ _ _ h=>h) (Or.inl ⟨by rfl,?_⟩) (by assumption) ?_
     rotate_left
     ·intro w hSw
      obtain ⟨_,_,h3⟩:=hSw
      first | (go_simp;done) | (go_simp;with_reducible rfl)
     simp only [Act.put,List.setIfInBounds_toArray,List.set_cons_zero,List.set_cons_succ]
     refine wpAnyH_take (i:=3) (fuel:=14) (oi:=⟨_,_,_,_,_,_⟩) (v:=?_) rfl (by kernel_rfl) (by kernel_rfl) (by kernel_rfl) (fun _ _ _ h=>h) (Or.inl ⟨by rfl,?_⟩) (by assumption) ?_
     rotate_left
     ·intro w _
      first | (go_simp;done) | (go_simp;with_reducible rfl)
     simp only [Act.put,List.setIfInBounds_toArray,List.set_cons_zero,List.set_cons_succ]
     refine wpAnyH_take (i:=4) (fuel:=13) (oi:=⟨_,_,_,_,_,_⟩) (v:=?_) rfl (by kernel_rfl) (by kernel_rfl) (by kernel_rfl) (fun _ _ _ h=>h) (Or.inl ⟨by rfl,?_⟩) (by assumption) ?_
     rotate_left
     ·intro w _
      first | (go_simp;done) | (go_simp;with_reducible rfl)
     simp only [Act.put,List.setIfInBounds_toArray,List.set_cons_zero,List.set_cons_succ]
     refine wpAnyH_take (i:=5) (fuel:=12) (oi:=⟨_,_,_,_,_,_⟩) (v:=?_) rfl (by kernel_rfl) (by kernel_rfl) (by kernel_rfl) (fun _ _ _ h=>h) (Or.inl ⟨by rfl,?_⟩) (by assumption) ?_
     rotate_left
     ·intro w hSw
      obtain ⟨_,_,h3⟩:=hSw
      first | (go_simp;done) | (go_simp;with_reducible rfl)
     simp only [Act.put,List.setIfInBounds_toArray,List.set_cons_zero,List.set_cons_succ]
     refine wpAnyH_take (i:=6) (fuel:=11) (oi:=⟨_,_,_,_,_,_⟩) (v:=?_) rfl (by kernel_rfl) (by kernel_rfl) (by kernel_rfl) (fun _ _ _ h=>h) (Or.inl ⟨by rfl,?_⟩) (by assumption) ?_
     rotate_left
     ·intro w _
      first | (go_simp;done) | (go_simp;with_reducible rfl)
     simp only [Act.put,List.setIfInBounds_toArray,List.set_cons_zero,List.set_cons_succ]
     refine wpAnyH_take (i:=8) (fuel:=10) (oi:=⟨_,_,_,_,_,_⟩) (v:=?_) rfl (by kernel_rfl) (by kernel_rfl) (by kernel_rfl) (fun _ _ _ h=>h) (Or.inl ⟨by rfl,?_⟩) (by assumption) ?_
     rotate_left
     ·intro w _
      first | (go_simp;done) | (go_simp;with_reducible rfl)
     simp only [Act.put,List.setIfInBounds_toArray,List.set_cons_zero,List.set_cons_succ]
     refine wpAnyH_take (i:=9) (fuel:=9) (oi:=⟨_,_,_,_,_,_⟩) (v:=?_) rfl (by kernel_rfl) (by kernel_rfl) (by kernel_rfl) (fun _ _ _ h=>h) (Or.inl ⟨by rfl,?_⟩) (by assumption) ?_
     rotate_left
     ·intro w hSw
      obtain ⟨h1,_,_⟩:=hSw
      first | (go_simp;done) | (go_simp;with_reducible rfl)
     simp only [Act.put,List.setIfInBounds_toArray,List.set_cons_zero,List.set_cons_succ]
     refine wpAnyH_take (i:=10) (fuel:=8) (oi:=⟨_,_,_,_,_,_⟩) (v:=?_) rfl (by kernel_rfl) (by kernel_rfl) (by kernel_rfl) (fun _ _ _ h=>h) (Or.inl ⟨by rfl,?_⟩) (by assumption) ?_
     rotate_left
     ·intro w _
      first | (go_simp;done) | (go_simp;with_reducible rfl)
     simp only [Act.put,List.setIfInBounds_toArray,List.set_cons_zero,List.set_cons_succ]
     refine wpAnyH_take (i:=11) (fuel:=7) (oi:=⟨_,_,_,_,_,_⟩) (v:=?_) rfl (by kernel_rfl) (by kernel_rfl) (by kernel_rfl) (fun _ _ _ h=>h) (Or.inl ⟨by rfl,?_⟩) (by assumption) ?_
     rotate_left
     ·intro w hSw
      obtain ⟨_,h2,_⟩:=hSw
      first | (go_simp;done) | (go_simp;with_reducible rfl)
     simp only [Act.put,List.setIfInBounds_toArray,List.set_cons_zero,List.set_cons_succ]
     refine wpAnyH_take (i:=12) (fuel:=6) (oi:=⟨_,_,_,_,_,_⟩) (v:=?_) rfl (by kernel_rfl) (by kernel_rfl) (by kernel_rfl) (fun _ _ _ h=>h) (Or.inl ⟨by rfl,?_⟩) (by assumption) ?_
     rotate_left
     ·intro w _
      first | (go_simp;done) | (go_simp;with_reducible rfl)
     simp only [Act.put,List.setIfInBounds_toArray,List.set_cons_zero,List.set_cons_succ]
     refine wpAnyH_take (i:=13) (fuel:=5) (oi:=⟨_,_,_,_,_,_⟩) (v:=?_) rfl (by kernel_rfl) (by kernel_rfl) (by kernel_rfl) (fun _ _ _ h=>h) (Or.inl ⟨by rfl,?_⟩) (by assumption) ?_
     rotate_left
     ·intro w _
      first | (go_simp;done) | (go_simp;with_reducible rfl)
     simp only [Act.put,List.setIfInBounds_toArray,List.set_cons_zero,List.set_cons_succ]
     refine wpAnyH_ready (rs:=[7,14]) (by kernel_rfl) (by simp) ?_
     refine AllReadyH.cons (o:=⟨_,_,_,_,_,_⟩) rfl (fun K hK=>?_) ?_
     ·go_simp
      refine hK.out _ _ ⟨b0,b1,b2⟩ (fun hHeld=>?_)
      clear hK K
      refine wpAnyH_ready (rs:=[14]) (by kernel_rfl) (by simp) ?_
      refine AllReadyH.cons (o:=⟨_,_,_,_,_,_⟩) rfl (fun K hK=>?_) AllReadyH.nil
      go_simp
      refine hK.out _ _ ⟨q0,q1,q2⟩ (fun hHeld=>?_)
      clear hK K
      refine wpAnyH_ready (rs:=[15]) (by kernel_rfl) (by simp) ?_
      refine AllReadyH.cons (o:=⟨_,_,_,_,_,_⟩) rfl (fun K hK=>?_) AllReadyH.nil
      refine step_pushC (by rfl) _ _ 59 71 (by rfl) i1 _ 3 24 Tryz.underlying59 hi1 hy0 hy1 hy2 rfl (by decide) κ3 (10+t0) _ (T t0).length (arcsV (T t0)) (by rfl) hrr.out hBE.out [.int .i64 lo,.int .i64 hi',.int .i64 (i:Int)] rfl (one_of rfl) ⟨wa.heap.size,0,none⟩ hnw.out (by rfl) (by omega) (by omega) ?_
      intro g5 cp5 w5 hr5 hs5
      obtain ⟨⟨k1,k2⟩,hP5⟩:=hPU.out g5 cp5 w5 hr5 hs5
      obtain ⟨z0,z1,z2⟩:=HDW.out w5 (hDK.out _ w5 hs5)
      have z3:=HDW.out (w5.setCell ⟨w.heap.size,t0,none⟩ (.slice (some ⟨g5,0,none⟩) ((T t0).length+1) cp5)) ((heap_other _ _ _ _ _ hDg.out).trans (hDK.out _ w5 hs5))
      have HP5:=lh hP5
      clear hr5 hs5 hP5
      refine hK.out _ _ ⟨z0,z1,z2⟩ (fun hHeld=>?_)
      clear hK K
      simp only [Act.put,List.setIfInBounds_toArray,List.set_cons_zero,List.set_cons_succ]
      refine wpAnyH_ready (rs:=[16]) (by kernel_rfl) (by simp) ?_
      refine AllReadyH.cons (o:=⟨_,_,_,_,_,_⟩) rfl (fun K hK=>?_) AllReadyH.nil
      go_simp
      refine hK.out _ _ ⟨z0,z1,z2⟩ (fun hHeld=>?_)
      clear hK K
      refine wpAnyH_ready (rs:=[17]) (by kernel_rfl) (by simp) ?_
      refine AllReadyH.cons (o:=⟨_,_,_,_,_,_⟩) rfl (fun K hK=>?_) AllReadyH.nil
      go_simp
      refine hK.out _ _ z3 (fun hHeld=>?_)
      clear hK K
      refine wpAnyH_done (by kernel_rfl) ?_ _
      go_wp2_with fail
      go_roundg (m-(k+1))
      case rel=>exact ⟨k+1,_,_,by omega,rfl,by go_num,HP5⟩
      case measure=>omega
     refine AllReadyH.cons (o:=⟨_,_,_,_,_,_⟩) rfl (fun K hK=>?_) AllReadyH.nil
     go_simp
     refine hK.out _ _ ⟨q0,q1,q2⟩ (fun hHeld=>?_)
     clear hK K
     refine wpAnyH_ready (rs:=[7]) (by kernel_rfl) (by simp) ?_
     refine AllReadyH.cons (o:=⟨_,_,_,_,_,_⟩) rfl (fun K hK=>?_) AllReadyH.nil
     go_simp
     refine hK.out _ _ ⟨q0,q1,q2⟩ (fun hHeld=>?_)
     clear hK K
     refine wpAnyH_ready (rs:=[15]) (by kernel_rfl) (by simp) ?_
     refine AllReadyH.cons (o:=⟨_,_,_,_,_,_⟩) rfl (fun K hK=>?_) AllReadyH.nil
     refine step_pushC (by rfl) _ _ 59 71 (by rfl) i1 _ 3 24 Tryz.underlying59 hi1 hy0 hy1 hy2 rfl (by decide) κ3 (10+t0) _ (T t0).length (arcsV (T t0)) (by rfl) hrr.out hBE.out [.int .i64 lo,.int .i64 hi',.int .i64 (i:Int)] rfl (one_of rfl) ⟨wa.heap.size,0,none⟩ hnw.out (by rfl) (by omega) (by omega) ?_
     intro g5 cp5 w5 hr5 hs5
     obtain ⟨⟨k1,k2⟩,hP5⟩:=hPU.out g5 cp5 w5 hr5 hs5
     obtain ⟨z0,z1,z2⟩:=HDW.out w5 (hDK.out _ w5 hs5)
     have z3:=HDW.out (w5.setCell ⟨w.heap.size,t0,none⟩ (.slice (some ⟨g5,0,none⟩) ((T t0).length+1) cp5)) ((heap_other _ _ _ _ _ hDg.out).trans (hDK.out _ w5 hs5))
     have HP5:=lh hP5
     clear hr5 hs5 hP5
     refine hK.out _ _ ⟨z0,z1,z2⟩ (fun hHeld=>?_)
     clear hK K
     simp only [Act.put,List.setIfInBounds_toArray,List.set_cons_zero,List.set_cons_succ]
     refine wpAnyH_ready (rs:=[16]) (by kernel_rfl) (by simp) ?_
     refine AllReadyH.cons (o:=⟨_,_,_,_,_,_⟩) rfl (fun K hK=>?_) AllReadyH.nil
     go_simp
     refine hK.out _ _ ⟨z0,z1,z2⟩ (fun hHeld=>?_)
     clear hK K
     refine wpAnyH_ready (rs:=[17]) (by kernel_rfl) (by simp) ?_
     refine AllReadyH.cons (o:=⟨_,_,_,_,_,_⟩) rfl (fun K hK=>?_) AllReadyH.nil
     go_simp
     refine hK.out _ _ z3 (fun hHeld=>?_)
     clear hK K
     refine wpAnyH_done (by kernel_rfl) ?_ _
     go_wp2_with fail
     go_roundg (m-(k+1))
     case rel=>exact ⟨k+1,_,_,by omega,rfl,by go_num,HP5⟩
     case measure=>omega
    ·obtain rfl:k=m:=by omega
     have hP2:Hid (BkS w wr κ w.heap.size n x (Au.backTo d (i+1) 0)):=by
      have:Au.backTo d (i+1) 0=Au.backTo d i k:=funext fun t=>by rw [HM.out];exact (Au.backTo_row d i t).symm
      rw [this]
      exact hP
     clear hP
     go_wp2_with fail
     go_roundg (n-(i+1))
     case rel=>exact ⟨i+1,_,_,by omega,rfl,by go_num,hP2⟩
     case measure=>omega
  ·obtain rfl:i=n:=by omega
   have hP2:Hid (BkS w wr κ w.heap.size i x (Au.back d)):=by
    have:Au.back d=Au.backTo d i 0:=funext fun t=>by
     have:=Au.backTo_all d t
     rw [HDN.out] at this
     exact this.symm
    rw [this]
    exact hP
   clear hP
   go_wp2_with fail
   go_ret
   exact ⟨_,rfl,hP2.out.rows (by omega),hP2.out.below⟩
end
end Go.Proofs.YtmdefnbpimfbgaaGreatDoor
namespace Go.Proofs
open Go.Shelf
def Tryz.lays156_ren:Go.Shelf.Ren:=⟨fun | 156=>41 | 165=>65 | 166=>66 | 169=>67 | 240=>88 | 241=>89 | 276=>110 | 277=>111 | n=>n,fun | 31=>73 | 9=>9 | 3=>3 | 4=>4 | 0=>0 | 20=>20 | 72=>122 | 76=>126 | 70=>120 | 37=>102 | 75=>125 | 127=>167 | 164=>190 | 5=>5 | 80=>128 | n=>n,fun | n=>n⟩
theorem Tryz.lays156:Go.Proofs.Lays.n156 Tryz.prog Tryz.lays156_ren:={
 mixed:=by kernel_rfl
 f156:=Tryz.func41.trans (congrArg some (by kernel_rfl))
 f165:=Tryz.func65.trans (congrArg some (by kernel_rfl))
 f166:=Tryz.func66.trans (congrArg some (by kernel_rfl))
 f169:=Tryz.func67.trans (congrArg some (by kernel_rfl))
 f240:=Tryz.func88.trans (congrArg some (by kernel_rfl))
 f241:=Tryz.func89.trans (congrArg some (by kernel_rfl))
 f276:=Tryz.func110.trans (congrArg some (by kernel_rfl))
 f277:=Tryz.func111.trans (congrArg some (by kernel_rfl))
 t0:=Tryz.underlying0
 a0:=Tryz.isAgg0
 z0:=Tryz.sizeOf0
 v0:=Tryz.zeroValue0
 t3:=Tryz.underlying3
 a3:=Tryz.isAgg3
 z3:=Tryz.sizeOf3
 v3:=Tryz.zeroValue3
 t4:=Tryz.underlying4
 a4:=Tryz.isAgg4
 z4:=Tryz.sizeOf4
 v4:=Tryz.zeroValue4
 t9:=Tryz.underlying9
 a9:=Tryz.isAgg9
 z9:=Tryz.sizeOf9
 v9:=Tryz.zeroValue9
 t20:=Tryz.underlying20
 a20:=Tryz.isAgg20
 z20:=Tryz.sizeOf20
 v20:=Tryz.zeroValue20
 t31:=Tryz.underlying73
 a31:=Tryz.isAgg73
 z31:=Tryz.sizeOf73
 v31:=Tryz.zeroValue73
 t37:=Tryz.underlying102
 a37:=Tryz.isAgg102
 z37:=Tryz.sizeOf102
 v37:=Tryz.zeroValue102
 t70:=Tryz.underlying120
 a70:=Tryz.isAgg120
 z70:=Tryz.sizeOf120
 v70:=Tryz.zeroValue120
 t72:=Tryz.underlying122
 a72:=Tryz.isAgg122
 z72:=Tryz.sizeOf122
 v72:=Tryz.zeroValue122
 t75:=Tryz.underlying125
 a75:=Tryz.isAgg125
 z75:=Tryz.sizeOf125
 v75:=Tryz.zeroValue125
 t76:=Tryz.underlying126
 a76:=Tryz.isAgg126
 z76:=Tryz.sizeOf126
 v76:=Tryz.zeroValue126
 t127:=Tryz.underlying167
 a127:=Tryz.isAgg167
 z127:=Tryz.sizeOf167
 v127:=Tryz.zeroValue167
 t164:=Tryz.underlying190
 a164:=Tryz.isAgg190
 z164:=Tryz.sizeOf190
 v164:=Tryz.zeroValue190}
theorem Tryz.Builder_Extra_156:Builder.Extra Tryz.prog Tryz.lays156_ren:={
 sizeBuilder:=by kernel_rfl
 liesBuilder:=by kernel_rfl
 t5:=Tryz.underlying5
 a5:=Tryz.isAgg5
 z5:=Tryz.sizeOf5
 v5:=Tryz.zeroValue5
 infoByte:=by kernel_rfl
 cellsByte:=by kernel_rfl
 sizeByte:=by kernel_rfl
 neB5:=by decide}
open Go.RowKit in
theorem Tryz.strings_Join_none (a:Option Addr) (c:Nat) (sep:ByteArray) (w:World):
  Calls Tryz.prog 41 #[.slice a 0 c,.string sep] w fun e w'=>e=.returned (.string ⟨#[]⟩)∧w'=w:=Any.strings_Join_none Tryz.lays156 Tryz.Builder_Extra_156 a c sep w
open Go.RowKit in
theorem Tryz.strings_Join (bk o c:Nat) (xs:List ByteArray) (sep:ByteArray) (w:World) (hcells:∀(j:Nat) x,xs[j]?=some x→w.cell? ⟨bk,o+j,none⟩=some (.string x)) (hbk:bk<w.heap.size) (hN:xs.length≤140737488355328) (hcap:xs.length≤c) (hlen:(Lib.join (xs.map (·.data.toList)) sep.data.toList).length≤140737488355328):
  Calls Tryz.prog 41 #[.slice (some ⟨bk,o,none⟩) xs.length c,.string sep] w fun e w'=>e=.returned (.string ⟨(Lib.join (xs.map (·.data.toList)) sep.data.toList).toArray⟩)∧Below w.heap.size w w':=Any.strings_Join Tryz.lays156 Tryz.Builder_Extra_156 bk o c xs sep w hcells hbk hN hcap hlen
def Tryz.lays137_ren:Go.Shelf.Ren:=⟨fun | 137=>97 | 217=>115 | 266=>129 | n=>n,fun | 9=>9 | 5=>5 | 3=>3 | n=>n,fun | n=>n⟩
theorem Tryz.lays137:Go.Proofs.Lays.n137 Tryz.prog Tryz.lays137_ren:={
 mixed:=by kernel_rfl
 f137:=Tryz.func97.trans (congrArg some (by kernel_rfl))
 f217:=Tryz.func115.trans (congrArg some (by kernel_rfl))
 f266:=Tryz.func129.trans (congrArg some (by kernel_rfl))
 t3:=Tryz.underlying3
 a3:=Tryz.isAgg3
 z3:=Tryz.sizeOf3
 v3:=Tryz.zeroValue3
 t5:=Tryz.underlying5
 a5:=Tryz.isAgg5
 z5:=Tryz.sizeOf5
 v5:=Tryz.zeroValue5
 t9:=Tryz.underlying9
 a9:=Tryz.isAgg9
 z9:=Tryz.sizeOf9
 v9:=Tryz.zeroValue9}
open Go.RowKit in
theorem Tryz.strings_IndexByte (s:ByteArray) (c:Int) (w:World):
  Calls Tryz.prog 97 #[.string s,.int .u8 c] w fun e w'=>e=.returned (.int .i64 (Lib.indexByte s.data.toList c.toNat.toUInt8))∧w'=w:=Any.strings_IndexByte Tryz.lays137 s c w
def Tryz.lays242_ren:Go.Shelf.Ren:=⟨fun | 242=>136 | 278=>147 | n=>n,fun | 37=>102 | 21=>21 | 51=>231 | 4=>4 | 5=>5 | 46=>206 | n=>n,fun | n=>n⟩
theorem Tryz.lays242:Go.Proofs.Lays.n242 Tryz.prog Tryz.lays242_ren:={
 mixed:=by kernel_rfl
 f242:=Tryz.func136.trans (congrArg some (by kernel_rfl))
 f278:=Tryz.func147.trans (congrArg some (by kernel_rfl))
 t4:=Tryz.underlying4
 a4:=Tryz.isAgg4
 z4:=Tryz.sizeOf4
 v4:=Tryz.zeroValue4
 t5:=Tryz.underlying5
 a5:=Tryz.isAgg5
 z5:=Tryz.sizeOf5
 v5:=Tryz.zeroValue5
 t21:=Tryz.underlying21
 a21:=Tryz.isAgg21
 z21:=Tryz.sizeOf21
 v21:=Tryz.zeroValue21
 t37:=Tryz.underlying102
 a37:=Tryz.isAgg102
 z37:=Tryz.sizeOf102
 v37:=Tryz.zeroValue102
 t46:=Tryz.underlying206
 a46:=Tryz.isAgg206
 z46:=Tryz.sizeOf206
 v46:=Tryz.zeroValue206
 t51:=Tryz.underlying231
 a51:=Tryz.isAgg231
 z51:=Tryz.sizeOf231
 v51:=Tryz.zeroValue231}
open Go.RowKit in
theorem Tryz.utf8_AppendRune_plain (B:Nat) (v:Value) (n:Nat) (xs:List Value) (r:Int) (hr0:-2147483648≤r) (hr1:r≤2147483647) (w:World) (hown:w.ownsRow B 5 1 v n xs) (hlen:n+4≤140737488355328) (hBw:B≤w.heap.size):
  Calls Tryz.prog 136 #[v,.int .i32 r] w fun e w'=>∃v',e=.returned v'∧w'.ownsRow B 5 1 v' (n+(Lib.runeCells r).length) (xs++Lib.runeCells r)∧∃o,(w.alloc o).grownBy w' v.ownBlock:=Any.utf8_AppendRune_plain Tryz.lays242 (by kernel_rfl) B v n xs r hr0 hr1 w hown hlen hBw
def Tryz.lays195_ren:Go.Shelf.Ren:=⟨fun | 195=>113 | n=>n,fun | 9=>9 | 3=>3 | 0=>0 | 4=>4 | n=>n,fun | n=>n⟩
theorem Tryz.lays195:Go.Proofs.Lays.n195 Tryz.prog Tryz.lays195_ren:={
 mixed:=by kernel_rfl
 f195:=Tryz.func113.trans (congrArg some (by kernel_rfl))
 t0:=Tryz.underlying0
 a0:=Tryz.isAgg0
 z0:=Tryz.sizeOf0
 v0:=Tryz.zeroValue0
 t3:=Tryz.underlying3
 a3:=Tryz.isAgg3
 z3:=Tryz.sizeOf3
 v3:=Tryz.zeroValue3
 t4:=Tryz.underlying4
 a4:=Tryz.isAgg4
 z4:=Tryz.sizeOf4
 v4:=Tryz.zeroValue4
 t9:=Tryz.underlying9
 a9:=Tryz.isAgg9
 z9:=Tryz.sizeOf9
 v9:=Tryz.zeroValue9}
open Go.RowKit in
theorem Tryz.utf8_RuneCountInString (s:ByteArray) (w:World) (hs:s.size<9223372036854775807):
  Calls Tryz.prog 113 #[.string s] w fun e w'=>e=.returned (.int .i64 (Lib.runeCount s))∧∃pos,w'=w.iter s pos:=Any.utf8_RuneCountInString Tryz.lays195 s w hs
def Tryz.lays129_ren:Go.Shelf.Ren:=⟨fun | 129=>106 | n=>n,fun | 53=>156 | 3=>3 | 4=>4 | 46=>206 | 5=>5 | 9=>9 | n=>n,fun | n=>n⟩
theorem Tryz.lays129:Go.Proofs.Lays.n129 Tryz.prog Tryz.lays129_ren:={
 mixed:=by kernel_rfl
 f129:=Tryz.func106.trans (congrArg some (by kernel_rfl))
 t3:=Tryz.underlying3
 a3:=Tryz.isAgg3
 z3:=Tryz.sizeOf3
 v3:=Tryz.zeroValue3
 t4:=Tryz.underlying4
 a4:=Tryz.isAgg4
 z4:=Tryz.sizeOf4
 v4:=Tryz.zeroValue4
 t5:=Tryz.underlying5
 a5:=Tryz.isAgg5
 z5:=Tryz.sizeOf5
 v5:=Tryz.zeroValue5
 t9:=Tryz.underlying9
 a9:=Tryz.isAgg9
 z9:=Tryz.sizeOf9
 v9:=Tryz.zeroValue9
 t46:=Tryz.underlying206
 a46:=Tryz.isAgg206
 z46:=Tryz.sizeOf206
 v46:=Tryz.zeroValue206
 t53:=Tryz.underlying156
 a53:=Tryz.isAgg156
 z53:=Tryz.sizeOf156
 v53:=Tryz.zeroValue156}
theorem Tryz.bits_Len64 (x:Int) (w:World) (h0:0≤x) (h1:x≤18446744073709551615):
  Calls Tryz.prog 106 #[.int .u64 x] w fun e w'=>e=.returned (.int .i64 (Lib.bitLen x.toNat))∧w'=w:=Any.bits_Len64 Tryz.lays129 x w h0 h1
def Tryz.lays189_ren:Go.Shelf.Ren:=⟨fun | 189=>121 | 125=>133 | 257=>132 | 128=>146 | 129=>106 | 294=>137 | 295=>138 | 296=>139 | 297=>140 | 298=>141 | 299=>142 | 216=>143 | 300=>144 | 301=>145 | 328=>148 | 329=>149 | 330=>150 | 331=>151 | 332=>152 | 215=>153 | 343=>154 | n=>n,fun | 28=>82 | 3=>3 | 46=>206 | 0=>0 | 51=>231 | 53=>156 | 4=>4 | 183=>225 | 182=>224 | 131=>100 | 5=>5 | 9=>9 | 218=>232 | 222=>194 | 228=>237 | 229=>88 | n=>n,fun | n=>n⟩
theorem Tryz.lays189:Go.Proofs.Lays.n189 Tryz.prog Tryz.lays189_ren:={
 mixed:=by kernel_rfl
 f125:=Tryz.func133.trans (congrArg some (by kernel_rfl))
 f128:=Tryz.func146.trans (congrArg some (by kernel_rfl))
 f129:=Tryz.func106.trans (congrArg some (by kernel_rfl))
 f189:=Tryz.func121.trans (congrArg some (by kernel_rfl))
 f215:=Tryz.func153.trans (congrArg some (by kernel_rfl))
 f216:=Tryz.func143.trans (congrArg some (by kernel_rfl))
 f257:=Tryz.func132.trans (congrArg some (by kernel_rfl))
 f294:=Tryz.func137.trans (congrArg some (by kernel_rfl))
 f295:=Tryz.func138.trans (congrArg some (by kernel_rfl))
 f296:=Tryz.func139.trans (congrArg some (by kernel_rfl))
 f297:=Tryz.func140.trans (congrArg some (by kernel_rfl))
 f298:=Tryz.func141.trans (congrArg some (by kernel_rfl))
 f299:=Tryz.func142.trans (congrArg some (by kernel_rfl))
 f300:=Tryz.func144.trans (congrArg some (by kernel_rfl))
 f301:=Tryz.func145.trans (congrArg some (by kernel_rfl))
 f328:=Tryz.func148.trans (congrArg some (by kernel_rfl))
 f329:=Tryz.func149.trans (congrArg some (by kernel_rfl))
 f330:=Tryz.func150.trans (congrArg some (by kernel_rfl))
 f331:=Tryz.func151.trans (congrArg some (by kernel_rfl))
 f332:=Tryz.func152.trans (congrArg some (by kernel_rfl))
 f343:=Tryz.func154.trans (congrArg some (by kernel_rfl))
 t0:=Tryz.underlying0
 a0:=Tryz.isAgg0
 z0:=Tryz.sizeOf0
 v0:=Tryz.zeroValue0
 t3:=Tryz.underlying3
 a3:=Tryz.isAgg3
 z3:=Tryz.sizeOf3
 v3:=Tryz.zeroValue3
 t4:=Tryz.underlying4
 a4:=Tryz.isAgg4
 z4:=Tryz.sizeOf4
 v4:=Tryz.zeroValue4
 t5:=Tryz.underlying5
 a5:=Tryz.isAgg5
 z5:=Tryz.sizeOf5
 v5:=Tryz.zeroValue5
 t9:=Tryz.underlying9
 a9:=Tryz.isAgg9
 z9:=Tryz.sizeOf9
 v9:=Tryz.zeroValue9
 t28:=Tryz.underlying82
 a28:=Tryz.isAgg82
 z28:=Tryz.sizeOf82
 v28:=Tryz.zeroValue82
 t46:=Tryz.underlying206
 a46:=Tryz.isAgg206
 z46:=Tryz.sizeOf206
 v46:=Tryz.zeroValue206
 t51:=Tryz.underlying231
 a51:=Tryz.isAgg231
 z51:=Tryz.sizeOf231
 v51:=Tryz.zeroValue231
 t53:=Tryz.underlying156
 a53:=Tryz.isAgg156
 z53:=Tryz.sizeOf156
 v53:=Tryz.zeroValue156
 t131:=Tryz.underlying100
 a131:=Tryz.isAgg100
 z131:=Tryz.sizeOf100
 v131:=Tryz.zeroValue100
 t182:=Tryz.underlying224
 a182:=Tryz.isAgg224
 z182:=Tryz.sizeOf224
 v182:=Tryz.zeroValue224
 t183:=Tryz.underlying225
 a183:=Tryz.isAgg225
 z183:=Tryz.sizeOf225
 v183:=Tryz.zeroValue225
 t218:=Tryz.underlying232
 a218:=Tryz.isAgg232
 z218:=Tryz.sizeOf232
 v218:=Tryz.zeroValue232
 t222:=Tryz.underlying194
 a222:=Tryz.isAgg194
 z222:=Tryz.sizeOf194
 v222:=Tryz.zeroValue194
 t228:=Tryz.underlying237
 a228:=Tryz.isAgg237
 z228:=Tryz.sizeOf237
 v228:=Tryz.zeroValue237
 t229:=Tryz.underlying88
 a229:=Tryz.isAgg88
 z229:=Tryz.sizeOf88
 v229:=Tryz.zeroValue88}
open Go.Sort Go.RowKit in
theorem Tryz.slices_Sort_int (blk off cap:Nat) (zs:List Int) (w:World) (hH:Holds (Value.int .i64) w blk off zs.toArray) (hblk:blk<w.heap.size) (hsz:zs.length<4611686018427387904):
  Calls Tryz.prog 121 #[.slice (some ⟨blk,off,none⟩) zs.length cap] w fun e w'=>
   e=.returned (.tuple #[])∧∃n os,w'=grow (putRow (Value.int .i64) (Sort.ahead w n) blk off (zs.mergeSort fun x y=>decide (x≤y)).toArray) os:=Any.slices_Sort_int Tryz.lays189 blk off cap zs w hH hblk hsz
def Tryz.lays108_ren:Go.Shelf.Ren:=⟨fun | 108=>75 | n=>n,fun | 28=>82 | 3=>3 | 0=>0 | 4=>4 | n=>n,fun | n=>n⟩
theorem Tryz.lays108:Go.Proofs.Lays.n108 Tryz.prog Tryz.lays108_ren:={
 mixed:=by kernel_rfl
 f108:=Tryz.func75.trans (congrArg some (by kernel_rfl))
 t0:=Tryz.underlying0
 a0:=Tryz.isAgg0
 z0:=Tryz.sizeOf0
 v0:=Tryz.zeroValue0
 t3:=Tryz.underlying3
 a3:=Tryz.isAgg3
 z3:=Tryz.sizeOf3
 v3:=Tryz.zeroValue3
 t4:=Tryz.underlying4
 a4:=Tryz.isAgg4
 z4:=Tryz.sizeOf4
 v4:=Tryz.zeroValue4
 t28:=Tryz.underlying82
 a28:=Tryz.isAgg82
 z28:=Tryz.sizeOf82
 v28:=Tryz.zeroValue82}
open Go.Lib in
theorem Tryz.slices_Index_int (b off n c:Nat) (zs:List Int) (x:Int) (w:World) (hz:n≤zs.length) (hbig:n≤9223372036854775807) (hc:∀j,j<zs.length→w.cell? ⟨b,off+j,none⟩=some (.int .i64 (zs.getD j 0))):
  Calls Tryz.prog 75 #[.slice (some ⟨b,off,none⟩) n c,.int .i64 x] w fun e w'=>e=.returned (.int .i64 (Lib.idxOf (zs.take n) x))∧w'=w:=Any.slices_Index_int Tryz.lays108 b off n c zs x w hz hbig hc
open Go.Lib in
theorem Tryz.slices_Index_int_empty (a:Option Addr) (c:Nat) (x:Int) (w:World):
  Calls Tryz.prog 75 #[.slice a 0 c,.int .i64 x] w fun e w'=>e=.returned (.int .i64 (Lib.idxOf [] x))∧w'=w:=Any.slices_Index_int_empty Tryz.lays108 a c x w
def Tryz.lays107_ren:Go.Shelf.Ren:=⟨fun | 107=>76 | 108=>75 | n=>n,fun | 28=>82 | 3=>3 | 4=>4 | 0=>0 | n=>n,fun | n=>n⟩
theorem Tryz.lays107:Go.Proofs.Lays.n107 Tryz.prog Tryz.lays107_ren:={
 mixed:=by kernel_rfl
 f107:=Tryz.func76.trans (congrArg some (by kernel_rfl))
 f108:=Tryz.func75.trans (congrArg some (by kernel_rfl))
 t0:=Tryz.underlying0
 a0:=Tryz.isAgg0
 z0:=Tryz.sizeOf0
 v0:=Tryz.zeroValue0
 t3:=Tryz.underlying3
 a3:=Tryz.isAgg3
 z3:=Tryz.sizeOf3
 v3:=Tryz.zeroValue3
 t4:=Tryz.underlying4
 a4:=Tryz.isAgg4
 z4:=Tryz.sizeOf4
 v4:=Tryz.zeroValue4
 t28:=Tryz.underlying82
 a28:=Tryz.isAgg82
 z28:=Tryz.sizeOf82
 v28:=Tryz.zeroValue82}
open Go.Lib in
theorem Tryz.slices_Contains_int (b off n c:Nat) (zs:List Int) (x:Int) (w:World) (hz:n≤zs.length) (hbig:n≤9223372036854775807) (hc:∀j,j<zs.length→w.cell? ⟨b,off+j,none⟩=some (.int .i64 (zs.getD j 0))):
  Calls Tryz.prog 76 #[.slice (some ⟨b,off,none⟩) n c,.int .i64 x] w fun e w'=>e=.returned (.bool ((zs.take n).contains x))∧w'=w:=Any.slices_Contains_int Tryz.lays107 b off n c zs x w hz hbig hc
open Go.Lib in
theorem Tryz.slices_Contains_int_empty (a:Option Addr) (c:Nat) (x:Int) (w:World):
  Calls Tryz.prog 76 #[.slice a 0 c,.int .i64 x] w fun e w'=>e=.returned (.bool false)∧w'=w:=Any.slices_Contains_int_empty Tryz.lays107 a c x w
def Tryz.laysNm215_ren:Go.Shelf.Ren:=⟨fun | 15=>117 | n=>n,fun | 22=>82 | 3=>3 | 4=>4 | n=>n,fun | n=>n⟩
theorem Tryz.laysNm215:Go.Proofs.Lays2.n15 Tryz.prog Tryz.laysNm215_ren:={
 mixed:=by kernel_rfl
 f15:=Tryz.func117.trans (congrArg some (by kernel_rfl))
 t3:=Tryz.underlying3
 a3:=Tryz.isAgg3
 z3:=Tryz.sizeOf3
 v3:=Tryz.zeroValue3
 t4:=Tryz.underlying4
 a4:=Tryz.isAgg4
 z4:=Tryz.sizeOf4
 v4:=Tryz.zeroValue4
 t22:=Tryz.underlying82
 a22:=Tryz.isAgg82
 z22:=Tryz.sizeOf82
 v22:=Tryz.zeroValue82
 i3:=by kernel_rfl}
open Go.RowKit Go.Lib in
theorem Tryz.slices_Clone_int (b off n c:Nat) (zs:List Int) (w:World) (hz:n≤zs.length) (hbig:n*8≤140737488355328) (hc:∀j,j<zs.length→w.cell? ⟨b,off+j,none⟩=some (.int .i64 (zs.getD j 0))):
  Calls Tryz.prog 117 #[.slice (some ⟨b,off,none⟩) n c] w fun e w'=>∃v',e=.returned v'∧w'.ownsRow w.heap.size 3 1 v' n ((zs.take n).map (Value.int .i64))∧v'≠.slice none 0 0∧Below w.heap.size w w':=Any.slices_Clone_int Tryz.laysNm215 b off n c zs w hz hbig hc
open Go.RowKit Go.Lib in
theorem Tryz.slices_Clone_int_nil (n c:Nat) (w:World):
  Calls Tryz.prog 117 #[.slice none n c] w fun e w'=>e=.returned (.slice none 0 0)∧w'=w:=Any.slices_Clone_int_nil Tryz.laysNm215 n c w
open Go.RowKit Go.Lib in
theorem Tryz.slices_Clone_int_zero (a:Addr) (c:Nat) (w:World):
  Calls Tryz.prog 117 #[.slice (some a) 0 c] w fun e w'=>∃v',e=.returned v'∧w'.ownsRow w.heap.size 3 1 v' 0 []∧v'≠.slice none 0 0∧Below w.heap.size w w':=Any.slices_Clone_int_zero Tryz.laysNm215 a c w
end Go.Proofs
namespace Go.Proofs.YtmdefnbpimfbgaaGreatDoor
section
open Go.RowKit
theorem ret_int {k:IntKind} {a b:Int} (h:a=b):Ending.returned (.int k a)=.returned (.int k b):=by rw [h]
theorem width_any (m:Nat) (w:World) (hm:m<18446744073709551616):
  Calls Tryz.prog 82 #[.int .u64 m] w fun e w'=>e=.returned (.int .i64 (Pl.wid m))∧w=w':=by
 have hb:=Pl.bitLen_le m
 have hw:=Pl.wid_bitLen m
 have HW:Hid (max 1 (((Lib.bitLen m:Int)+7)/8)=(Pl.wid m:Int)):=by
  show _=_
  rw [←hw]
  show _=((max 1 ((Lib.bitLen m+7)/8):Nat):Int)
  omega
 clear hw
 go_enter Tryz.func82,Tryz.ntmps82
 go_wp2_with (go_at_call 106;refine (Tryz.bits_Len64 _ _ (by omega) (by omega)).mono ?_;rintro e w' ⟨rfl,rfl⟩)
 go_ret
 exact ⟨ret_int HW.out,rfl⟩
theorem readWide_far (s:ByteArray) (f a:Nat) (w:World) (h0:0<s.size) (hx:bits .xor .u8 (s[0].toNat:Int) (f:Int)=(a:Int)) (ha:247<a) (ha2:a<256):
  Calls Tryz.prog 124 #[.string s,.int .u8 f] w fun e w'=>e=.returned (.tuple #[.int .i64 0,.int .i64 0,.int .i64 3])∧w=w':=by
 go_enter Tryz.func124,Tryz.ntmps124
 go_wp2_with fail
 go_ret3
 exact ⟨rfl,rfl⟩
theorem readWide_short (s:ByteArray) (f k:Nat) (w:World) (h0:0<s.size) (hsz:s.size≤9223372036854775807) (hx:bits .xor .u8 (s[0].toNat:Int) (f:Int)=(k:Int)+239) (hk8:k≤8) (hk:s.size≤k):
  Calls Tryz.prog 124 #[.string s,.int .u8 f] w fun e w'=>e=.returned (.tuple #[.int .i64 0,.int .i64 0,.int .i64 2])∧w=w':=by
 go_enter Tryz.func124,Tryz.ntmps124
 go_wp2_with fail
 go_ret3
 exact ⟨rfl,rfl⟩
theorem or_byte (m b:Nat) (hm:m<72057594037927936) (hb:b<256):
  bits .or .u64 (IntKind.u64.wrap ((m:Int)*256)) (IntKind.u64.wrap (b:Int))=((256*m+b:Nat):Int):=by
 rw [IntKind.wrap_u64,IntKind.wrap_u64,show (m:Int)*256%18446744073709551616=((256*m:Nat):Int) from by omega,show (b:Int)%18446744073709551616=(b:Int) from by omega,u64_or_nat _ _ (by omega) (by omega)]
 rw [nat_join 8 (256*m) b (by simp [Nat.mul_mod_right]) (by simpa using hb)]
theorem tail_take (s:ByteArray) (j:Nat) (h:j+1<s.size):s.data.toList.tail.take (j+1)=s.data.toList.tail.take j++[s[j+1]]:=by
 have hl:j<s.data.toList.tail.length:=by simp;omega
 rw [List.take_succ_eq_append_getElem hl]
 simp
 rfl
theorem val_bound (f:Nat) (hf:f<256) (l:List UInt8) (j n:Nat) (hn:j≤n):Pl.val f (l.take j) 0<256 ^ n:=by
 have h:=Pl.val_lt f hf (l.take j) 0 0 (by simp)
 have hl:(l.take j).length≤j:=List.length_take_le _ _
 exact Nat.lt_of_lt_of_le h (Nat.pow_le_pow_right (by omega) (by omega))
theorem readWide_loop (s:ByteArray) (f k:Nat) (w:World) (hf:f<256) (h0:0<s.size) (hsz:s.size≤9223372036854775807) (hx:bits .xor .u8 (s[0].toNat:Int) (f:Int)=(k:Int)+239) (hk1:1≤k) (hk8:k≤8) (hk:k<s.size)
  (n z e:Int) (hr:(if Pl.wid (Pl.val f (s.data.toList.tail.take k) 0)<k∨9223372036854775695<Pl.val f (s.data.toList.tail.take k) 0 then ((0,0,3):Int × Int × Int) else ((Pl.val f (s.data.toList.tail.take k) 0:Int)+112,1+(k:Int),0))=(n,z,e)):
  Calls Tryz.prog 124 #[.string s,.int .u8 f] w fun e' w'=>e'=.returned (.tuple #[.int .i64 n,.int .i64 z,.int .i64 e])∧w=w':=by
 have HR:=lh hr
 clear hr
 go_enter Tryz.func124,Tryz.ntmps124
 go_wp2_with fail
 go_loop [8,9] (fun m i=>∃j:Nat,j≤k∧i=.int .i64 ((j:Int)+1)∧m=.int .u64 (Pl.val f (s.data.toList.tail.take j) 0)) (fun _ i=>k+1-(intOf i).toNat)
 case atStart=>exact ⟨0,Nat.zero_le _,rfl,rfl⟩
 case round=>
  obtain ⟨j,hj,rfl,rfl⟩:=hrel
  by_cases hlt:j<k
  ·have hi:j+1<s.size:=by omega
   have hxor:=u8_xor_nat s[j+1].toNat f s[j+1].toNat_lt hf
   have hst:Hid (Pl.val f (s.data.toList.tail.take (j+1)) 0=256*Pl.val f (s.data.toList.tail.take j) 0+(s[j+1].toNat ^^^ f)):=by
    show _=_
    rw [tail_take s j hi,Pl.val_snoc]
   have hv:Hid (Pl.val f (s.data.toList.tail.take j) 0<72057594037927936):=val_bound f hf _ j 7 (by omega)
   have hb:Hid (s[j+1].toNat ^^^ f<256):=Pl.xor_lt _ _ hf
   go_wp2_with fail
   go_round
   case rel=>exact ⟨j+1,by omega,by go_num,by rw [hst.out,or_byte _ _ hv.out hb.out]⟩
   case measure=>simp [intOf];omega
  ·obtain rfl:j=k:=by omega
   have hb:Pl.val f (s.data.toList.tail.take j) 0<18446744073709551616:=val_bound f hf _ j 8 hk8
   have hwl:=Pl.wid_le (Pl.val f (s.data.toList.tail.take j) 0)
   have hr:=HR.out
   clear HR
   generalize Pl.val f (s.data.toList.tail.take j) 0=m at *
   generalize hv:Pl.wid m=v at *
   have HV:=lh hv
   clear hv
   by_cases h1:v<j
   ·rw [if_pos (Or.inl h1)] at hr
    obtain ⟨rfl,rfl,rfl⟩:0=n∧0=z∧3=e:=by simpa using hr
    clear hr
    go_wp2_with (refine (width_any m _ hb).mono ?_;rintro e w' ⟨rfl,rfl⟩;rw [HV.out])
    go_ret3
    exact ⟨rfl,rfl⟩
   ·by_cases h2:9223372036854775695<m
    ·rw [if_pos (Or.inr h2)] at hr
     obtain ⟨rfl,rfl,rfl⟩:0=n∧0=z∧3=e:=by simpa using hr
     clear hr
     go_wp2_with (refine (width_any m _ hb).mono ?_;rintro e w' ⟨rfl,rfl⟩;rw [HV.out])
     go_ret3
     exact ⟨rfl,rfl⟩
    ·rw [if_neg (by omega)] at hr
     obtain ⟨rfl,rfl,rfl⟩:(m:Int)+112=n∧1+(j:Int)=z∧0=e:=by simpa using hr
     clear hr
     go_wp2_with (refine (width_any m _ hb).mono ?_;rintro e w' ⟨rfl,rfl⟩;rw [HV.out])
     go_ret3
     exact ⟨rfl,rfl⟩
theorem readWide_any (s:ByteArray) (f:Nat) (w:World) (hf:f<256) (h0:0<s.size) (hsz:s.size≤9223372036854775807) (ha:240≤s[0].toNat ^^^ f) (n z e:Int) (hr:Pl.rdWide s[0] s.data.toList.tail f=(n,z,e)):
  Calls Tryz.prog 124 #[.string s,.int .u8 f] w fun e' w'=>e'=.returned (.tuple #[.int .i64 n,.int .i64 z,.int .i64 e])∧w=w':=by
 have hx:=u8_xor_nat s[0].toNat f s[0].toNat_lt hf
 have hlt:=Pl.xor_lt s[0] f hf
 have hlen:s.data.toList.tail.length=s.size-1:=by simp
 unfold Pl.rdWide at hr
 rw [hlen] at hr
 generalize s[0].toNat ^^^ f=a at *
 by_cases h1:247<a
 ·rw [if_pos h1] at hr
  obtain ⟨rfl,rfl,rfl⟩:0=n∧0=z∧3=e:=by simpa using hr
  exact readWide_far s f a w h0 hx h1 hlt
 ·rw [if_neg h1] at hr
  obtain ⟨k,rfl⟩:∃k,a=k+239:=⟨a-239,by omega⟩
  rw [Nat.add_sub_cancel] at hr
  have hx':bits .xor .u8 (s[0].toNat:Int) (f:Int)=(k:Int)+239:=by rw [hx];omega
  by_cases h2:s.size-1<k
  ·rw [if_pos h2] at hr
   obtain ⟨rfl,rfl,rfl⟩:0=n∧0=z∧2=e:=by simpa using hr
   exact readWide_short s f k w h0 hsz hx' (by omega) (by omega)
  ·rw [if_neg h2] at hr
   refine readWide_loop s f k w hf h0 hsz hx' (by omega) (by omega) (by omega) n z e ?_
   rw [←hr,show ((k+239:Nat):Int)-238=1+(k:Int) from by omega]
theorem rdNum_cons (s:ByteArray) (h0:0<s.size):Pl.rdNum s.data.toList=(if s[0].toNat ^^^ Pl.flipOf s[0]<240 then Pl.back (Pl.flipOf s[0]) (((s[0].toNat ^^^ Pl.flipOf s[0]:Nat):Int)-128,1,0)
  else Pl.back (Pl.flipOf s[0]) (Pl.rdWide s[0] s.data.toList.tail (Pl.flipOf s[0]))):=by
 have hl:0<s.data.toList.length:=by simpa using h0
 have h:s.data.toList=s[0] :: s.data.toList.tail:=by
  rw [←List.cons_head_tail (List.ne_nil_of_length_pos hl)]
  congr 1
  rw [List.head_eq_getElem]
  rfl
 conv=>lhs;rw [h]
 rfl
theorem empty_true (s:ByteArray) (h:s.size=0):s.toList.isEmpty=true:=by
 rw [ByteArray.toList_eq]
 have:s.data.toList.length=0:=by simpa using h
 simpa using List.length_eq_zero_iff.1 this
theorem empty_false (s:ByteArray) (h:0<s.size):s.toList.isEmpty=false:=by
 rw [ByteArray.toList_eq]
 have h2:0<s.data.toList.length:=by simpa using h
 cases hl:s.data.toList with
 | nil=>rw [hl] at h2;simp at h2
 | cons c t=>rfl
theorem rdWide_bd (c:UInt8) (t:List UInt8) (f:Nat) (n z e:Int) (h:Pl.rdWide c t f=(n,z,e)) (hc:c.toNat ^^^ f<256) (hc2:240≤c.toNat ^^^ f):
  (0≤n∧n≤9223372036854775807)∧(0≤z∧z≤t.length+1)∧(e=0∨e=2∨e=3)∧(e≠0→n=0∧z=0):=by
 unfold Pl.rdWide at h
 generalize Pl.wid (Pl.val f (List.take ((c.toNat ^^^ f)-239) t) 0)=v at *
 generalize Pl.val f (List.take ((c.toNat ^^^ f)-239) t) 0=m at *
 generalize c.toNat ^^^ f=a at *
 by_cases h1:247<a
 ·rw [if_pos h1] at h
  obtain ⟨rfl,rfl,rfl⟩:0=n∧0=z∧3=e:=by simpa using h
  omega
 ·rw [if_neg h1] at h
  by_cases h2:t.length<a-239
  ·rw [if_pos h2] at h
   obtain ⟨rfl,rfl,rfl⟩:0=n∧0=z∧2=e:=by simpa using h
   omega
  ·rw [if_neg h2] at h
   by_cases h3:v<a-239∨9223372036854775695<m
   ·rw [if_pos h3] at h
    obtain ⟨rfl,rfl,rfl⟩:0=n∧0=z∧3=e:=by simpa using h
    omega
   ·rw [if_neg h3] at h
    obtain ⟨rfl,rfl,rfl⟩:(m:Int)+112=n∧(a:Int)-238=z∧0=e:=by simpa using h
    omega
theorem readNum_empty (s:ByteArray) (w:World) (h:s.size=0):
  Calls Tryz.prog 107 #[.string s] w fun e' w'=>e'=.returned (.tuple #[.int .i64 0,.int .i64 0,.int .i64 2])∧w=w':=by
 have h1:=empty_true s h
 clear h
 go_enter Tryz.func107,Tryz.ntmps107
 go_wp2_with fail
 go_ret3
 exact ⟨rfl,rfl⟩
theorem readNum_near (s:ByteArray) (w:World) (h0:0<s.size) (hd:128≤s[0].toNat) (hd2:s[0].toNat<240):
  Calls Tryz.prog 107 #[.string s] w fun e' w'=>e'=.returned (.tuple #[.int .i64 ((s[0].toNat:Int)-128),.int .i64 1,.int .i64 0])∧w=w':=by
 have hx:bits .xor .u8 (s[0].toNat:Int) 0=(s[0].toNat:Int):=by
  have:=u8_xor_nat s[0].toNat 0 s[0].toNat_lt (by omega)
  simpa using this
 have h1:=empty_false s h0
 go_enter Tryz.func107,Tryz.ntmps107
 go_wp2_with fail
 go_ret3
 exact ⟨rfl,rfl⟩
theorem readNum_wide0 (s:ByteArray) (w:World) (h0:0<s.size) (hsz:s.size≤9223372036854775807) (hd:240≤s[0].toNat) (n z e:Int) (hr:Pl.rdWide s[0] s.data.toList.tail 0=(n,z,e)):
  Calls Tryz.prog 107 #[.string s] w fun e' w'=>e'=.returned (.tuple #[.int .i64 n,.int .i64 z,.int .i64 e])∧w=w':=by
 have hx0:s[0].toNat ^^^ 0=s[0].toNat:=Nat.xor_zero _
 have hc:=readWide_any s 0 w (by omega) h0 hsz (by rw [hx0];exact hd) n z e hr
 have hbd:=rdWide_bd _ _ _ _ _ _ hr (Pl.xor_lt _ _ (by omega)) (by rw [hx0];exact hd)
 have hx:bits .xor .u8 (s[0].toNat:Int) 0=(s[0].toNat:Int):=by
  have:=u8_xor_nat s[0].toNat 0 s[0].toNat_lt (by omega)
  simpa using this
 have h1:=empty_false s h0
 have HC:=lh hc
 clear hr hx0 hc
 obtain ⟨⟨b1,b2⟩,_,_,_⟩:=hbd
 have hu:s[0].toNat<256:=s[0].toNat_lt
 go_enter Tryz.func107,Tryz.ntmps107
 by_cases he:e=0
 ·subst he
  go_wp2_with (refine HC.out.mono ?_;rintro e w' ⟨rfl,rfl⟩)
  go_ret3
  exact ⟨rfl,rfl⟩
 ·have he':(e==0)=false:=by simpa using he
  clear he
  go_wp2_with (refine HC.out.mono ?_;rintro e w' ⟨rfl,rfl⟩)
  go_ret3
  exact ⟨rfl,rfl⟩
theorem readNum_nearM (s:ByteArray) (a:Nat) (w:World) (h0:0<s.size) (hx:bits .xor .u8 (s[0].toNat:Int) 255=(a:Int)) (hd:s[0].toNat<128) (ha:128≤a) (ha2:a<240):
  Calls Tryz.prog 107 #[.string s] w fun e' w'=>e'=.returned (.tuple #[.int .i64 (-((a:Int)-128)-1),.int .i64 1,.int .i64 0])∧w=w':=by
 have h1:=empty_false s h0
 have hn:bits .xor .i64 (-1) ((a:Int)-128) = -((a:Int)-128)-1:=by
  have:=i64_not (a-128) (by omega)
  rw [show ((a-128:Nat):Int)=(a:Int)-128 from by omega] at this
  rw [this];omega
 have HN:=lh hn
 clear hn
 go_enter Tryz.func107,Tryz.ntmps107
 go_wp2_with fail
 rw [HN.out]
 go_ret3
 exact ⟨rfl,rfl⟩
theorem readNum_wideM (s:ByteArray) (a:Nat) (w:World) (h0:0<s.size) (hsz:s.size≤9223372036854775807) (hxa:s[0].toNat ^^^ 255=a) (hd:s[0].toNat<128) (ha:240≤a) (n z e:Int) (hr:Pl.rdWide s[0] s.data.toList.tail 255=(n,z,e)):
  Calls Tryz.prog 107 #[.string s] w fun e' w'=>e'=.returned (.tuple #[.int .i64 (if e=0 then -n-1 else n),.int .i64 z,.int .i64 e])∧w=w':=by
 have hc:=readWide_any s 255 w (by omega) h0 hsz (by rw [hxa];exact ha) n z e hr
 have hlt:=Pl.xor_lt s[0] 255 (by omega)
 have hbd:=rdWide_bd _ _ _ _ _ _ hr (Pl.xor_lt _ _ (by omega)) (by rw [hxa];exact ha)
 have hx:bits .xor .u8 (s[0].toNat:Int) 255=(a:Int):=by
  have:=u8_xor_nat s[0].toNat 255 s[0].toNat_lt (by omega)
  rw [hxa] at this
  exact this
 rw [hxa] at hlt
 have h1:=empty_false s h0
 have HC:=lh hc
 clear hr hxa hc
 obtain ⟨⟨b1,b2⟩,_,_,_⟩:=hbd
 by_cases he:e=0
 ·subst he
  rw [if_pos rfl]
  have hn:bits .xor .i64 (-1) n = -n-1:=by
   obtain ⟨m,rfl⟩:=Int.eq_ofNat_of_zero_le b1
   rw [i64_not m (by omega)];omega
  have HN:=lh hn
  clear hn
  go_enter Tryz.func107,Tryz.ntmps107
  go_wp2_with (refine HC.out.mono ?_;rintro e w' ⟨rfl,rfl⟩)
  rw [HN.out]
  go_ret3
  exact ⟨rfl,rfl⟩
 ·have he':(e==0)=false:=by simpa using he
  rw [if_neg he]
  clear he
  go_enter Tryz.func107,Tryz.ntmps107
  go_wp2_with (refine HC.out.mono ?_;rintro e w' ⟨rfl,rfl⟩)
  go_ret3
  exact ⟨rfl,rfl⟩
theorem readNum_any (s:ByteArray) (w:World) (hsz:s.size≤9223372036854775807) (n z e:Int) (hr:Pl.rdNum s.data.toList=(n,z,e)):
  Calls Tryz.prog 107 #[.string s] w fun e' w'=>e'=.returned (.tuple #[.int .i64 n,.int .i64 z,.int .i64 e])∧w=w':=by
 by_cases h0:s.size=0
 ·have:s.data.toList=[]:=by
   have:s.data.toList.length=0:=by simpa using h0
   exact List.length_eq_zero_iff.1 this
  rw [this] at hr
  obtain ⟨rfl,rfl,rfl⟩:0=n∧0=z∧2=e:=by simpa [Pl.rdNum] using hr
  exact readNum_empty s w h0
 ·have h0:0<s.size:=by omega
  rw [rdNum_cons s h0] at hr
  have hu:s[0].toNat<256:=s[0].toNat_lt
  unfold Pl.flipOf at hr
  by_cases hd:s[0].toNat<128
  ·rw [if_pos hd] at hr
   have hlt:=Pl.xor_lt s[0] 255 (by omega)
   have hge:128≤s[0].toNat ^^^ 255:=by
    have:∀x:Fin 128,128≤x.val ^^^ 255:=by decide +kernel
    exact this ⟨_,hd⟩
   have hx:=u8_xor_nat s[0].toNat 255 hu (by omega)
   obtain ⟨a,ha⟩:∃a,s[0].toNat ^^^ 255=a:=⟨_,rfl⟩
   rw [ha] at hr hlt hge hx
   by_cases h1:a<240
   ·rw [if_pos h1] at hr
    obtain ⟨rfl,rfl,rfl⟩:-((a:Int)-128)-1=n∧1=z∧0=e:=by simpa [Pl.back] using hr
    exact readNum_nearM s a w h0 hx hd hge h1
   ·rw [if_neg h1] at hr
    obtain ⟨n',z',e',hw⟩:∃n z e,Pl.rdWide s[0] s.data.toList.tail 255=(n,z,e):=⟨_,_,_,rfl⟩
    rw [hw] at hr
    have:=readNum_wideM s a w h0 hsz ha hd (by omega) n' z' e' hw
    have h3:(if e'=0 then -n'-1 else n')=n∧z'=z∧e'=e:=by
     unfold Pl.back at hr
     by_cases he:e'=0
     ·rw [if_pos ⟨he,by omega⟩] at hr
      rw [if_pos he]
      simpa using hr
     ·rw [if_neg (fun h=>he h.1)] at hr
      rw [if_neg he]
      simpa using hr
    obtain ⟨rfl,rfl,rfl⟩:=h3
    exact this
  ·rw [if_neg hd,Nat.xor_zero] at hr
   by_cases h1:s[0].toNat<240
   ·rw [if_pos h1] at hr
    obtain ⟨rfl,rfl,rfl⟩:(s[0].toNat:Int)-128=n∧1=z∧0=e:=by simpa [Pl.back] using hr
    exact readNum_near s w h0 (by omega) h1
   ·rw [if_neg h1] at hr
    have h3:Pl.rdWide s[0] s.data.toList.tail 0=(n,z,e):=by simpa [Pl.back] using hr
    exact readNum_wide0 s w h0 hsz (by omega) n z e h3
theorem rdNum_bd (l:List UInt8) (n z e:Int) (h:Pl.rdNum l=(n,z,e)):
  (-9223372036854775808≤n∧n≤9223372036854775807)∧(0≤z∧z≤l.length)∧(e=0∨e=2∨e=3)∧(e≠0→n=0∧z=0):=by
 cases l with
 | nil=>
  obtain ⟨rfl,rfl,rfl⟩:0=n∧0=z∧2=e:=by simpa [Pl.rdNum] using h
  exact ⟨by omega,by simp,by omega,by omega⟩
 | cons c t=>
  have hf:Pl.flipOf c<256:=by unfold Pl.flipOf;split <;> omega
  have hlt:=Pl.xor_lt c _ hf
  have hge:128≤c.toNat ^^^ Pl.flipOf c:=by
   have hu:=c.toNat_lt
   unfold Pl.flipOf
   split
   ·rename_i hd
    have:∀x:Fin 128,128≤x.val ^^^ 255:=by decide +kernel
    exact this ⟨_,hd⟩
   ·rw [Nat.xor_zero];omega
  simp only [Pl.rdNum] at h
  simp only [List.length_cons]
  by_cases h1:c.toNat ^^^ Pl.flipOf c<240
  ·rw [if_pos h1] at h
   generalize c.toNat ^^^ Pl.flipOf c=a at *
   unfold Pl.back at h
   split at h
   ·obtain ⟨rfl,rfl,rfl⟩:-((a:Int)-128)-1=n∧1=z∧0=e:=by simpa using h
    omega
   ·obtain ⟨rfl,rfl,rfl⟩:(a:Int)-128=n∧1=z∧0=e:=by simpa using h
    omega
  ·rw [if_neg h1] at h
   obtain ⟨n',z',e',hw⟩:∃n z e,Pl.rdWide c t (Pl.flipOf c)=(n,z,e):=⟨_,_,_,rfl⟩
   have hb:=rdWide_bd _ _ _ _ _ _ hw hlt (by omega)
   rw [hw] at h
   unfold Pl.back at h
   split at h
   ·obtain ⟨rfl,rfl,rfl⟩:-n'-1=n∧z'=z∧e'=e:=by simpa using h
    rename_i h0
    have:e'=0:=h0.1
    omega
   ·obtain ⟨rfl,rfl,rfl⟩:n'=n∧z'=z∧e'=e:=by simpa using h
    omega
end
end Go.Proofs.YtmdefnbpimfbgaaGreatDoor

/-
  Lemmas on automata, dictionaries and the walk over them, the program's calls and the given ones.
-/
import Derived.Test.YtmdefnbpimfbgaaGreatDoorQ7
import Derived.Test.YtmdefnbpimfbgaaGreatDoorQ8
import Derived.Sort.OwnSortedInts
set_option maxRecDepth 100000
set_option maxHeartbeats 16000000
namespace Go.Proofs.YtmdefnbpimfbgaaGreatDoor
section
open Go.RowKit
def dl (a:Int):List Int→List Int
 | []=>[]
 | x :: t=>wrap64 (x-a) :: dl x t
def sm (a:Int):List Int→List Int
 | []=>[]
 | x :: t=>wrap64 (a+x) :: sm (wrap64 (a+x)) t
theorem dl_length (zs:List Int):∀a,(dl a zs).length=zs.length:=by
 induction zs with
 | nil=>intro a;rfl
 | cons x t ih=>intro a;simp only [dl,List.length_cons,ih]
theorem sm_length (zs:List Int):∀a,(sm a zs).length=zs.length:=by
 induction zs with
 | nil=>intro a;rfl
 | cons x t ih=>intro a;simp only [sm,List.length_cons,ih]
theorem wrap_back (a x:Int) (hx:-9223372036854775808≤x∧x≤9223372036854775807):wrap64 (a+wrap64 (x-a))=x:=by
 unfold wrap64
 omega
def Wf (zs:List Int):Prop:=∀x∈zs,-9223372036854775808≤x∧x≤9223372036854775807
theorem sm_dl (zs:List Int):∀a,Wf zs→sm a (dl a zs)=zs:=by
 induction zs with
 | nil=>intro a _;rfl
 | cons x t ih=>
  intro a h
  simp only [dl,sm]
  rw [wrap_back a x (h x (List.mem_cons_self ..)),ih x (fun z hz=>h z (List.mem_cons_of_mem _ hz))]
theorem dl_get (zs:List Int):∀(a:Int) (j:Nat) (h:j<zs.length) (h2:j<(dl a zs).length),(dl a zs)[j]=wrap64 (zs[j]-(a :: zs)[j]'(by simp;omega)):=by
 induction zs with
 | nil=>intro a j h;cases h
 | cons x t ih=>
  intro a j h h2
  cases j with
  | zero=>simp [dl]
  | succ j=>
   simp only [List.length_cons,Nat.add_lt_add_iff_right] at h
   simp only [dl,List.getElem_cons_succ]
   exact ih x j h (by rw [dl_length];exact h)
theorem sm_get (ds:List Int):∀(a:Int) (j:Nat) (h:j<ds.length) (h2:j<(sm a ds).length),(sm a ds)[j]=wrap64 ((a :: sm a ds)[j]'(by rw [List.length_cons];omega)+ds[j]):=by
 induction ds with
 | nil=>intro a j h;cases h
 | cons x t ih=>
  intro a j h h2
  cases j with
  | zero=>simp [sm]
  | succ j=>
   simp only [List.length_cons,Nat.add_lt_add_iff_right] at h
   simp only [sm,List.getElem_cons_succ]
   exact ih (wrap64 (a+x)) j h (by rw [sm_length];exact h)
theorem getD_at (l:List Int) (j:Nat) (h:j<l.length):l.getD j 0=l[j]:=by simp [List.getD,h]
def RowI (w:World) (g n:Nat) (f:Nat→Int):Prop:=w.rowIs g 3 n (fun j=>.int .i64 (f j))
theorem RowI.set {w:World} {g n:Nat} {f:Nat→Int} (h:RowI w g n f) (p:Nat) (x:Int):RowI (w.setCell ⟨g,p,none⟩ (.int .i64 x)) g n (fun j=>if j=p then x else f j):=
 (World.rowIs.set h p _).congr fun j _=>by by_cases e:j=p <;> simp [e]
def upTo (l:List Int) (k:Nat):Nat→Int:=fun j=>if j<k then l.getD j 0 else 0
theorem upTo_step (l:List Int) (k:Nat) (x:Int) (h:l.getD k 0=x) (j:Nat):(if j=k then x else upTo l k j)=upTo l (k+1) j:=by
 unfold upTo
 by_cases e:j=k
 ·rw [if_pos e,if_pos (by omega),e,h]
 ·rw [if_neg e]
  by_cases e2:j<k
  ·rw [if_pos e2,if_pos (by omega)]
  ·rw [if_neg e2,if_neg (by omega)]
def NewI (w:World) (l:List Int) (e:Ending) (w':World):Prop:=
 e=.returned (.slice (some ⟨w.heap.size,0,none⟩) l.length l.length)∧RowI w' w.heap.size l.length (fun j=>l.getD j 0)∧Below w.heap.size w w'
theorem deltas_any (w:World) (v:Value) (zs:List Int) (F:Nat→Prop) (hv:NumS F w v zs) (hn:zs.length≤1073741824):
  Calls Tryz.prog 122 #[v] w (NewI w (dl 0 zs)):=by
 obtain ⟨a,cap,rfl,_,_,hv⟩:=hv
 unfold NewI
 rw [dl_length]
 have hmk:=run_make_row' (P:=Tryz.prog) 82 3 (.int .i64 0) 8 Tryz.underlying82 Tryz.infoN rfl .i64 .i64 zs.length (by omega) (by omega)
 have hst:Hid (RowI (w.alloc (.cells (madeCells #[.int .i64 0] zs.length) 3)) w.heap.size zs.length (upTo (dl 0 zs) 0)):=(World.rowIs_made w (.int .i64 0) zs.length 3).congr fun j _=>by simp [upTo]
 have hal:Hid (Below w.heap.size w (w.alloc (.cells (madeCells #[.int .i64 0] zs.length) 3))):=(Below.refl _ _).alloc (Nat.le_refl _) _
 have HV:=lh hv
 obtain ⟨n,hnz⟩:∃n,n=zs.length:=⟨_,rfl⟩
 have HN:=lh hnz
 rw [←hnz] at hn hmk hst hal ⊢
 clear hv hnz
 go_enter Tryz.func122,Tryz.ntmps122
 go_wp2_with fail
 go_loopg [4,12] n (fun g x i wx=>∃k:Nat,k≤n∧g=n-k∧i=.int .i64 (k:Int)∧x=.int .i64 ((0 :: zs).getD k 0)∧RowI wx w.heap.size n (upTo (dl 0 zs) k)∧Below w.heap.size w wx)
 case atStart=>exact ⟨0,Nat.zero_le _,rfl,rfl,rfl,hst.out,hal.out⟩
 case round=>
  clear hst hal hmk
  obtain ⟨k,hk,rfl,rfl,rfl,hrow,hbel⟩:=hrel
  by_cases hkn:k<n
  ·have i1:(k:Int)<(n:Int):=by omega
   have kx:k<zs.length:=by rw [←HN.out];exact hkn
   obtain ⟨g,o,rfl,hg,_,hcu⟩:=HV.out (by omega)
   have c1:wr.cell? ⟨g,o+k,none⟩=some (.int .i64 zs[k]):=(hbel.cell (p:=⟨g,o+k,none⟩) hg).trans (hcu k kx)
   have c2:=World.rowIs.cell hrow hkn
   have f2:=World.rowIs.frozen hrow k
   have hd:(dl 0 zs).getD k 0=wrap64 (zs[k]-(0 :: zs).getD k 0):=by
    rw [getD_at _ k (by rw [dl_length];exact kx),dl_get zs 0 k kx,getD_at (0 :: zs) k (by rw [List.length_cons];omega)]
   have hx:Hid ((0 :: zs).getD (k+1) 0=zs[k]):=by
    show _=_
    rw [getD_at (0 :: zs) (k+1) (by rw [List.length_cons];omega),List.getElem_cons_succ]
   have hN:Hid (RowI _ w.heap.size n (upTo (dl 0 zs) (k+1))):=(hrow.set k (wrap64 (zs[k]-(0 :: zs).getD k 0))).congr fun j _=>congrArg (Value.int .i64) (upTo_step (dl 0 zs) k _ hd j)
   have hB:Hid (Below w.heap.size w (wr.setCell ⟨w.heap.size,k,none⟩ (.int .i64 (wrap64 (zs[k]-(0 :: zs).getD k 0))))):=hbel.setCell (by exact Nat.le_refl w.heap.size:w.heap.size≤(⟨w.heap.size,k,none⟩:Addr).block) _
   clear hrow hbel hcu hd
   generalize (0 :: zs).getD k 0=ah at *
   generalize zs[k]=x at *
   generalize upTo (dl 0 zs) k k=old at *
   go_wp2_with fail
   go_roundg (n-(k+1))
   case rel=>exact ⟨k+1,by omega,rfl,by go_num,by rw [hx.out],hN.out,hB.out⟩
   case measure=>omega
  ·obtain rfl:k=n:=by omega
   have hfin:Hid (RowI wr w.heap.size k (fun j=>(dl 0 zs).getD j 0)):=World.rowIs.congr hrow fun j hj=>by unfold upTo;rw [if_pos hj]
   have HB:=lh hbel
   clear hrow hbel
   go_wp2_with fail
   go_ret
   exact ⟨rfl,hfin.out,HB.out⟩
theorem sums_any (w:World) (v:Value) (zs:List Int) (F:Nat→Prop) (hv:NumS F w v zs) (hn:zs.length≤1073741824):
  Calls Tryz.prog 123 #[v] w (NewI w (sm 0 zs)):=by
 obtain ⟨a,cap,rfl,_,_,hv⟩:=hv
 unfold NewI
 rw [sm_length]
 have hmk:=run_make_row' (P:=Tryz.prog) 82 3 (.int .i64 0) 8 Tryz.underlying82 Tryz.infoN rfl .i64 .i64 zs.length (by omega) (by omega)
 have hst:Hid (RowI (w.alloc (.cells (madeCells #[.int .i64 0] zs.length) 3)) w.heap.size zs.length (upTo (sm 0 zs) 0)):=(World.rowIs_made w (.int .i64 0) zs.length 3).congr fun j _=>by simp [upTo]
 have hal:Hid (Below w.heap.size w (w.alloc (.cells (madeCells #[.int .i64 0] zs.length) 3))):=(Below.refl _ _).alloc (Nat.le_refl _) _
 have HV:=lh hv
 obtain ⟨n,hnz⟩:∃n,n=zs.length:=⟨_,rfl⟩
 have HN:=lh hnz
 rw [←hnz] at hn hmk hst hal ⊢
 clear hv hnz
 go_enter Tryz.func123,Tryz.ntmps123
 go_wp2_with fail
 go_loopg [4,12] n (fun g x i wx=>∃k:Nat,k≤n∧g=n-k∧i=.int .i64 (k:Int)∧x=.int .i64 ((0 :: sm 0 zs).getD k 0)∧RowI wx w.heap.size n (upTo (sm 0 zs) k)∧Below w.heap.size w wx)
 case atStart=>exact ⟨0,Nat.zero_le _,rfl,rfl,rfl,hst.out,hal.out⟩
 case round=>
  clear hst hal hmk
  obtain ⟨k,hk,rfl,rfl,rfl,hrow,hbel⟩:=hrel
  by_cases hkn:k<n
  ·have i1:(k:Int)<(n:Int):=by omega
   have kx:k<zs.length:=by rw [←HN.out];exact hkn
   obtain ⟨g,o,rfl,hg,_,hcu⟩:=HV.out (by omega)
   have c1:wr.cell? ⟨g,o+k,none⟩=some (.int .i64 zs[k]):=(hbel.cell (p:=⟨g,o+k,none⟩) hg).trans (hcu k kx)
   have c2:=World.rowIs.cell hrow hkn
   have f2:=World.rowIs.frozen hrow k
   have hd:(sm 0 zs).getD k 0=wrap64 ((0 :: sm 0 zs).getD k 0+zs[k]):=by
    rw [getD_at _ k (by rw [sm_length];exact kx),sm_get zs 0 k kx,getD_at (0 :: sm 0 zs) k (by rw [List.length_cons,sm_length];omega)]
   have hx:Hid ((0 :: sm 0 zs).getD (k+1) 0=wrap64 ((0 :: sm 0 zs).getD k 0+zs[k])):=by
    show _=_
    rw [getD_at (0 :: sm 0 zs) (k+1) (by rw [List.length_cons,sm_length];omega),List.getElem_cons_succ,←hd,getD_at _ k (by rw [sm_length];exact kx)]
   have hN:Hid (RowI _ w.heap.size n (upTo (sm 0 zs) (k+1))):=(hrow.set k (wrap64 ((0 :: sm 0 zs).getD k 0+zs[k]))).congr fun j _=>congrArg (Value.int .i64) (upTo_step (sm 0 zs) k _ hd j)
   have hB:Hid (Below w.heap.size w (wr.setCell ⟨w.heap.size,k,none⟩ (.int .i64 (wrap64 ((0 :: sm 0 zs).getD k 0+zs[k]))))):=hbel.setCell (by exact Nat.le_refl w.heap.size:w.heap.size≤(⟨w.heap.size,k,none⟩:Addr).block) _
   clear hrow hbel hcu hd
   generalize (0 :: sm 0 zs).getD k 0=ah at *
   generalize zs[k]=x at *
   generalize upTo (sm 0 zs) k k=old at *
   go_wp2_with fail
   go_roundg (n-(k+1))
   case rel=>exact ⟨k+1,by omega,rfl,by go_num,by rw [hx.out],hN.out,hB.out⟩
   case measure=>omega
  ·obtain rfl:k=n:=by omega
   have hfin:Hid (RowI wr w.heap.size k (fun j=>(sm 0 zs).getD j 0)):=World.rowIs.congr hrow fun j hj=>by unfold upTo;rw [if_pos hj]
   have HB:=lh hbel
   clear hrow hbel
   go_wp2_with fail
   go_ret
   exact ⟨rfl,hfin.out,HB.out⟩
end
section
open Go.RowKit
def Cur (w:World) (b:Nat) (s:ByteArray):Prop:=w.cell? ⟨b,0,none⟩=some (.string s)∧w.frozen? ⟨b,0,none⟩=false
theorem Cur.lt {w:World} {b:Nat} {s:ByteArray} (h:Cur w b s):b<w.heap.size:=World.block_lt_of_cell? w _ h.1
theorem Cur.put {w:World} {b:Nat} {s:ByteArray} (h:Cur w b s) (r:ByteArray):Cur (w.setCell ⟨b,0,none⟩ (.string r)) b r:=
 ⟨World.cell?_setCell_same _ _ _ h.1,(World.frozen?_setCell _ _ _ _).trans h.2⟩
def rest (s:ByteArray) (z:Int):ByteArray:=s.extract z.toNat s.size
theorem rest_data (s:ByteArray) (z:Int):(rest s z).data.toList=s.data.toList.drop z.toNat:=by
 unfold rest
 rw [Lib.extract_data]
 apply List.take_of_length_le
 simp
theorem at_any (s:ByteArray) (w:World):
  Calls Tryz.prog 42 #[.string s] w fun e' w'=>e'=.returned (.pointer (some ⟨w.heap.size,0,none⟩))∧w.alloc (.cells #[.string s] 130)=w':=by
 go_enter Tryz.func42,Tryz.ntmps42
 go_wp2
 go_ret
 exact ⟨rfl,rfl⟩
theorem at_cur (s:ByteArray) (w:World) (T:Nat):Cur (w.alloc (.cells #[.string s] T)) w.heap.size s:=
 ⟨by rw [World.cell?_alloc_at _ _ _ _ rfl];rfl,World.frozen?_alloc_at _ _ _ _ rfl⟩
end
section
open Go.RowKit
theorem run_make_cap (n:Nat) (hn:n*8≤281474976710656):∀w,(Instr.makeSlice 82 (.int .i64 0) (.int .i64 (n:Int))).run Tryz.prog w=.ok (.slice (some ⟨w.heap.size,0,none⟩) 0 n) (w.alloc (.cells (madeCells #[.int .i64 0] n) 3)):=by
 intro w
 obtain ⟨i,hi,hz0,hz1,hz2⟩:=info_parts Tryz.infoN
 have hr:=run_make (P:=Tryz.prog) w 82 3 i (.int .i64 0) Tryz.underlying82 hi hz0 .i64 .i64 0 (n:Int) (by omega) (by omega) (by rw [hz2];omega) (by omega)
 simp only [Int.toNat_natCast,hz1,Nat.mul_one] at hr
 exact hr
structure NbS (w0 w:World) (B:Nat) (κ:Nat→Nat) (gc:Nat) (v:Value) (l:List Int) (r:ByteArray):Prop where
 row:RowC κ 1 w 3 1 v l.length (intsV l)
 cur:Cur w gc r
 col:κ gc=2
 lo:LoB κ w B
 below:Below B w0 w
theorem NbS.num {w0 w w':World} {B gc:Nat} {κ:Nat→Nat} {v:Value} {l:List Int} {r r':ByteArray} (h:NbS w0 w B κ gc v l r) (hB:B≤w.heap.size) (hb:Below gc w w') (hk:∀k,k<w.heap.size→k≠gc→w'.heap[k]?=w.heap[k]?) (hc:Cur w' gc r'):NbS w0 w' B (paint κ w.heap.size 2) gc v l r':=by
 have hs:Step κ 2 w w' (paint κ w.heap.size 2):=⟨hb.os,hb.tape,hb.output,hb.size,fun k hk1 hk2=>hk k hk1 (fun e=>hk2 (by rw [e];exact h.col)),fun k hk1=>paint_old _ _ _ _ hk1⟩
 exact ⟨h.row.step hs (by decide),hc,by rw [hs.col gc h.cur.lt,h.col],h.lo.step hs hB,hs.below h.lo (by decide) h.below hB⟩
theorem NbS.push {w0 w w3:World} {B gc g cp:Nat} {κ κ':Nat→Nat} {v:Value} {l:List Int} {r:ByteArray} {x:Int} (h:NbS w0 w B κ gc v l r) (hB:B≤w.heap.size)
  (hr:RowC κ' 1 w3 3 1 (.slice (some ⟨g,0,none⟩) (l.length+1) cp) (l.length+1) (intsV l++[.int .i64 x])) (hs:Step κ 1 w w3 κ'):NbS w0 w3 B κ' gc (.slice (some ⟨g,0,none⟩) (l.length+1) cp) (l++[x]) r∧B≤w3.heap.size:=by
 have hgl:=h.cur.lt
 have e:=hs.block gc hgl (by rw [h.col];decide)
 refine ⟨⟨?_,⟨(cell_same (a:=⟨gc,0,none⟩) e).trans h.cur.1,(World.frozen?_of_block (a:=⟨gc,0,none⟩) e).trans h.cur.2⟩,by rw [hs.col gc hgl,h.col],h.lo.step hs hB,hs.below h.lo (by decide) h.below hB⟩,Nat.le_trans hB hs.size⟩
 rw [←intsV_snoc,List.length_append]
 exact hr
def encI (xs:List Int):ByteArray:=⟨(Pl.numsB xs).toArray⟩
theorem num_any2 (s:ByteArray) (b:Nat) (w:World) (hc:Cur w b s) (hsz:s.size≤9223372036854775807) (n z e:Int) (hr:Pl.rdNum s.data.toList=(n,z,e)):
  Calls Tryz.prog 83 #[.pointer (some ⟨b,0,none⟩)] w fun e' w'=>e'=.returned (.tuple #[.int .i64 n,.int .i64 e])∧Below b w w'∧(∀k,k<w.heap.size→k≠b→w'.heap[k]?=w.heap[k]?)∧Cur w' b (rest s z):=by
 have hk:=readNum_any s w (by omega) n z e hr
 have hb:=rdNum_bd _ _ _ _ hr
 have hlen:s.data.toList.length=s.size:=by simp
 rw [hlen] at hb
 have HC:=lh hk
 have HP:=lh (hc.put (rest s z))
 clear hr hk hlen
 obtain ⟨_,⟨b3,b4⟩,_,_⟩:=hb
 obtain ⟨h1,h2⟩:=hc
 go_enter Tryz.func83,Tryz.ntmps83
 go_wp2_with (first | (go_at_call 107;refine HC.out.mono ?_;rintro e w' ⟨rfl,rfl⟩) | go_in)
 go_ret2
 exact ⟨rfl,(Below.refl _ _).setCell (by exact Nat.le_refl b) _,fun k _ hk=>heap_other _ _ _ _ _ hk,HP.out⟩
theorem encI_head (x:Int) (xs:List Int) (h:-9223372036854775808≤x∧x≤9223372036854775807):∃z,Pl.rdNum (encI (x :: xs)).data.toList=(x,z,0)∧rest (encI (x :: xs)) z=encI xs:=by
 have e:(encI (x :: xs)).data.toList=Pl.numB x++Pl.numsB xs:=by simp [encI,Pl.numsB]
 refine ⟨_,by rw [e];exact Iv.num_back x _ h.1 h.2,?_⟩
 have:(rest (encI (x :: xs)) ((Pl.numB x).length:Int)).data.toList=Pl.numsB xs:=by
  rw [rest_data,e,Int.toNat_natCast,List.drop_left]
 unfold encI at this ⊢
 rw [←this]
theorem encI_none:Pl.rdNum (encI []).data.toList=(0,0,2):=rfl
theorem encI_size (xs:List Int):(encI xs).size=(Pl.numsB xs).length:=by simp [encI,ByteArray.size]
theorem encI_size_le (xs:List Int):(encI xs).size≤9*xs.length:=by rw [encI_size];exact numsB_length xs
theorem encI_inj {xs ys:List Int} (hx:Wf xs) (hy:Wf ys) (h:encI xs=encI ys):xs=ys:=by
 induction xs generalizing ys with
 | nil=>
  cases ys with
  | nil=>rfl
  | cons y ys=>
   obtain ⟨z,h1,_⟩:=encI_head y ys (hy y (List.mem_cons_self ..))
   rw [←h,encI_none] at h1
   simp at h1
 | cons x xs ih=>
  obtain ⟨z,h1,h2⟩:=encI_head x xs (hx x (List.mem_cons_self ..))
  cases ys with
  | nil=>
   rw [h,encI_none] at h1
   simp at h1
  | cons y ys=>
   obtain ⟨z',h3,h4⟩:=encI_head y ys (hy y (List.mem_cons_self ..))
   rw [h,h3] at h1
   simp only [Prod.mk.injEq,and_true] at h1
   obtain ⟨rfl,rfl⟩:=h1
   rw [h,h4] at h2
   rw [ih (fun a ha=>hx a (List.mem_cons_of_mem _ ha)) (fun a ha=>hy a (List.mem_cons_of_mem _ ha)) h2.symm]
theorem nb_start1 (w:World) (t:ByteArray) (ht:t.size≤140737488355328):w.heap.size≤((w.alloc (.cells (madeCells #[.int .i64 0] t.size) 3)).alloc (.cells #[.string t] 130)).drew.heap.size ∧
  NbS w ((w.alloc (.cells (madeCells #[.int .i64 0] t.size) 3)).alloc (.cells #[.string t] 130)).drew w.heap.size (fun k=>if k=w.heap.size then 1 else if k=w.heap.size+1 then 2 else 0) (w.heap.size+1) (.slice (some ⟨w.heap.size,0,none⟩) 0 t.size) [] t:=by
 have e1:(w.alloc (.cells (madeCells #[.int .i64 0] t.size) 3)).heap.size=w.heap.size+1:=by simp
 refine ⟨by show w.heap.size≤(((w.alloc _).alloc _).heap).size;simp;omega,⟨?_,fun b hb=>?_⟩,?_,(by simp),fun k hk hc=>?_,(((Below.refl _ _).alloc (Nat.le_refl _) _).alloc (by simp) _).drew⟩
 ·refine ⟨rfl,.inr ⟨w.heap.size,t.size,madeCells #[.int .i64 0] t.size,rfl,Nat.zero_le _,?_,Nat.zero_le _,?_,by simp [madeCells],rfl⟩⟩
  ·show ((w.alloc _).alloc _).heap[w.heap.size]?=_
   rw [Go.Deep.blk_alloc_lt _ _ _ (by simp)]
   exact Go.Deep.blk_alloc_new _ _
  ·unfold maxLen;omega
 ·have:b=w.heap.size:=by simpa [Value.ownBlock] using hb.symm
  rw [this,if_pos rfl]
 ·have:=at_cur t (w.alloc (.cells (madeCells #[.int .i64 0] t.size) 3)) 130
  rw [e1] at this
  exact this
 ·split at hc
  ·omega
  ·split at hc <;> omega
theorem nb_start2 (w:World) (t:ByteArray) (ht:t.size≤140737488355328):w.heap.size≤((w.alloc (.cells #[.string t] 130)).alloc (.cells (madeCells #[.int .i64 0] t.size) 3)).drew.heap.size ∧
  NbS w ((w.alloc (.cells #[.string t] 130)).alloc (.cells (madeCells #[.int .i64 0] t.size) 3)).drew w.heap.size (fun k=>if k=w.heap.size then 2 else if k=w.heap.size+1 then 1 else 0) w.heap.size (.slice (some ⟨w.heap.size+1,0,none⟩) 0 t.size) [] t:=by
 have e1:(w.alloc (.cells #[.string t] 130)).heap.size=w.heap.size+1:=by simp
 refine ⟨by show w.heap.size≤(((w.alloc _).alloc _).heap).size;simp;omega,⟨?_,fun b hb=>?_⟩,?_,(by simp),fun k hk hc=>?_,(((Below.refl _ _).alloc (Nat.le_refl _) _).alloc (by simp) _).drew⟩
 ·refine ⟨rfl,.inr ⟨w.heap.size+1,t.size,madeCells #[.int .i64 0] t.size,rfl,Nat.zero_le _,?_,Nat.zero_le _,?_,by simp [madeCells],rfl⟩⟩
  ·show ((w.alloc _).alloc _).heap[w.heap.size+1]?=_
   rw [←e1]
   exact Go.Deep.blk_alloc_new _ _
  ·unfold maxLen;omega
 ·have:b=w.heap.size+1:=by simpa [Value.ownBlock] using hb.symm
  rw [this,if_neg (by omega),if_pos rfl]
 ·have h:=at_cur t w 130
  have e:=Go.Deep.blk_alloc_lt (w.alloc (.cells #[.string t] 130)) (.cells (madeCells #[.int .i64 0] t.size) 3) w.heap.size (by simp)
  exact ⟨(cell_same (a:=⟨w.heap.size,0,none⟩) e).trans h.1,(World.frozen?_of_block (a:=⟨w.heap.size,0,none⟩) e).trans h.2⟩
 ·split at hc
  ·omega
  ·split at hc <;> omega
theorem numbersOf_any (w:World) (xs:List Int) (hwf:Wf xs) (hlen:xs.length≤1099511627776):
  Calls Tryz.prog 57 #[.string (encI xs)] w fun e w'=>∃v,e=.returned v∧NumS (fun g=>w.heap.size≤g) w' v xs∧Below w.heap.size w w':=by
 have hsz:=encI_size_le xs
 have hmk:=run_make_cap (encI xs).size (by omega)
 have hAt:Hid (∀W,Calls Tryz.prog 42 #[.string (encI xs)] W fun e' w'=>e'=.returned (.pointer (some ⟨W.heap.size,0,none⟩))∧W.alloc (.cells #[.string (encI xs)] 130)=w'):=fun W=>at_any _ W
 have HWF:=lh hwf
 obtain ⟨B,hB⟩:∃B,w.heap.size=B:=⟨_,rfl⟩
 obtain ⟨ii,hi,hz0,hz1,hz2⟩:=info_parts Tryz.infoN
 have H1:Hid (B≤(((w.alloc (.cells (madeCells #[.int .i64 0] (encI xs).size) 3)).alloc (.cells #[.string (encI xs)] 130)).drew).heap.size∧NbS w (((w.alloc (.cells (madeCells #[.int .i64 0] (encI xs).size) 3)).alloc (.cells #[.string (encI xs)] 130)).drew) B (fun k=>if k=B then 1 else if k=B+1 then 2 else 0) (B+1) (.slice (some ⟨B,0,none⟩) 0 (encI xs).size) [] (encI xs)):=by
  subst hB
  exact nb_start1 w (encI xs) (by omega)
 have H2:Hid (B≤(((w.alloc (.cells #[.string (encI xs)] 130)).alloc (.cells (madeCells #[.int .i64 0] (encI xs).size) 3)).drew).heap.size∧NbS w (((w.alloc (.cells #[.string (encI xs)] 130)).alloc (.cells (madeCells #[.int .i64 0] (encI xs).size) 3)).drew) B (fun k=>if k=B then 2 else if k=B+1 then 1 else 0) B (.slice (some ⟨B+1,0,none⟩) 0 (encI xs).size) [] (encI xs)):=by
  subst hB
  exact nb_start2 w (encI xs) (by omega)
 have HNUM:Hid (∀W κ gc v l r,l++r=xs→B≤W.heap.size→NbS w W B κ gc v l (encI r)→Calls Tryz.prog 83 #[.pointer (some ⟨gc,0,none⟩)] W fun e' w'=>∃n e,e'=.returned (.tuple #[.int .i64 n,.int .i64 e])∧B≤w'.heap.size∧((r=[]∧e=2)∨(r=n :: r.tail∧e=0))∧NbS w w' B (paint κ W.heap.size 2) gc v l (encI r.tail)):=fun W κ gc v l r hlr hBW h=>by
  have hrl:r.length≤1099511627776:=by
   have:=congrArg List.length hlr
   rw [List.length_append] at this
   omega
  have hz:=encI_size_le r
  cases r with
  | nil=>
   refine (num_any2 (encI []) gc W h.cur (by omega) 0 0 2 encI_none).mono ?_
   rintro e w' ⟨rfl,h1,h2,h3⟩
   have e0:rest (encI []) 0=encI []:=rfl
   rw [e0] at h3
   exact ⟨0,2,rfl,Nat.le_trans hBW h1.size,.inl ⟨rfl,rfl⟩,h.num hBW h1 h2 h3⟩
  | cons x r'=>
   obtain ⟨z,g1,g2⟩:=encI_head x r' (hwf x (by rw [←hlr];simp))
   refine (num_any2 (encI (x :: r')) gc W h.cur (by omega) x z 0 g1).mono ?_
   rintro e w' ⟨rfl,h1,h2,h3⟩
   rw [g2] at h3
   exact ⟨x,0,rfl,Nat.le_trans hBW h1.size,.inr ⟨rfl,rfl⟩,h.num hBW h1 h2 h3⟩
 clear hwf
 go_enter Tryz.func57,Tryz.ntmps57
 go_wp2_with fail
 go_region_with (go_at_call 42;refine (hAt.out _).mono ?_;rintro e w' ⟨rfl,rfl⟩)
 ·clear H2
  have HS:=H1
  clear H1
  generalize ((w.alloc (.cells (madeCells #[.int .i64 0] (encI xs).size) 3)).alloc (.cells #[.string (encI xs)] 130)).drew=w2 at *
  have hB2:B≤w2.heap.size:=HS.out.1
  have HN1:=HNUM.out w2 _ (B+1) (.slice (some ⟨B,0,none⟩) 0 (encI xs).size) [] xs (by simp) HS.out.1 HS.out.2
  have HN1':=lh HN1
  clear HN1 HS hmk hAt
  go_wp2_with (go_at_call 83;refine HN1'.out.mono ?_;rintro e w3 ⟨n3,e3,rfl,hb3,h3⟩;have H3:=lh h3;clear h3)
  go_loopg [3,5,6] xs.length (fun gg v3 v5 v6 wx=>∃(l r:List Int) (κ:Nat→Nat) (n e:Int),l++r=xs∧gg=r.length∧v5=.int .i64 n∧v6=.int .i64 e∧B≤wx.heap.size∧((r=[]∧e=2)∨(r=n :: r.tail∧e=0))∧Hid (NbS w wx B κ (B+1) v3 l (encI r.tail)))
  case atStart=>exact ⟨[],xs,_,n3,e3,rfl,rfl,rfl,rfl,hb3,H3.out.1,H3.out.2⟩
  case round=>
   clear H3 hb3 HN1' hB2
   obtain ⟨l,r,κ,n,e,hlr,rfl,rfl,rfl,hBr,hre,hS⟩:=hrel
   rcases hre with ⟨rfl,rfl⟩ | ⟨hr,rfl⟩
   ·obtain rfl:l=xs:=by simpa using hlr
    have hfin:Hid (NumS (fun g=>w.heap.size≤g) wr u3 l):=hS.out.row.nums _ fun g hg hc=>by rw [hB];exact hS.out.lo g hg (by rw [hc];decide)
    have hbel:Hid (Below w.heap.size w wr):=by rw [hB];exact hS.out.below
    clear hS
    go_wp2_with fail
    go_ret
    exact ⟨_,rfl,by first | exact hfin.out | (rw [←hB];exact hfin.out),by first | exact hbel.out | (rw [←hB];exact hbel.out)⟩
   ·obtain ⟨r',rfl⟩:∃r',r=n :: r':=⟨_,hr⟩
    have hll:l.length≤1099511627776:=by
     have:=congrArg List.length hlr
     rw [List.length_append] at this
     omega
    have hrow:=lh hS.out.row
    have HP:Hid (∀g cp w3,RowC (paint κ wr.heap.size 1) 1 w3 3 1 (.slice (some ⟨g,0,none⟩) (l.length+1) cp) (l.length+1) (intsV l++[.int .i64 n])→Step κ 1 wr w3 (paint κ wr.heap.size 1)→_):=fun g cp w3 k1 k2=>hS.out.push hBr k1 k2
    have happ:Hid ((l++[n])++r'=xs):=by rw [List.append_assoc];exact hlr
    obtain ⟨N,hN⟩:∃N,l.length=N:=⟨_,rfl⟩
    rw [hN] at hrow HP hll
    have hrt:(n :: r').tail=r':=rfl
    rw [hrt] at HP
    clear hS hlr hr hrt hN
    go_wp2_with (first | (at_builtin;refine wpList_pushC rfl _ _ 82 3 rfl ii _ 1 8 Tryz.underlying82 hi hz0 hz1 hz2 rfl (by decide) κ 1 _ N (intsV l) rfl hrow.out [.int .i64 n] rfl (one_of rfl) rfl (by omega) (by omega) ?_;intro g2 cp2 w4 hr4 hs4;have HQ:=HP.out g2 cp2 w4 hr4 hs4;have HN2:=lh (HNUM.out w4 _ (B+1) _ (l++[n]) r' happ.out HQ.2 HQ.1);clear hr4 hs4 HQ) | (go_at_call 83;refine HN2.out.mono ?_;rintro e w5 ⟨n5,e5,rfl,hb5,h5⟩;have H5:=lh h5;clear h5))
    go_roundg r'.length
    case rel=>exact ⟨l++[n],r',_,n5,e5,happ.out,rfl,rfl,rfl,hb5,H5.out.1,H5.out.2⟩
    case measure=>simp
 ·clear H1
  have HS:=H2
  clear H2
  generalize ((w.alloc (.cells #[.string (encI xs)] 130)).alloc (.cells (madeCells #[.int .i64 0] (encI xs).size) 3)).drew=w2 at *
  have hB2:B≤w2.heap.size:=HS.out.1
  have HN1:=HNUM.out w2 _ B (.slice (some ⟨B+1,0,none⟩) 0 (encI xs).size) [] xs (by simp) HS.out.1 HS.out.2
  have HN1':=lh HN1
  clear HN1 HS hmk hAt
  go_wp2_with (go_at_call 83;refine HN1'.out.mono ?_;rintro e w3 ⟨n3,e3,rfl,hb3,h3⟩;have H3:=lh h3;clear h3)
  go_loopg [3,5,6] xs.length (fun gg v3 v5 v6 wx=>∃(l r:List Int) (κ:Nat→Nat) (n e:Int),l++r=xs∧gg=r.length∧v5=.int .i64 n∧v6=.int .i64 e∧B≤wx.heap.size∧((r=[]∧e=2)∨(r=n :: r.tail∧e=0))∧Hid (NbS w wx B κ B v3 l (encI r.tail)))
  case atStart=>exact ⟨[],xs,_,n3,e3,rfl,rfl,rfl,rfl,hb3,H3.out.1,H3.out.2⟩
  case round=>
   clear H3 hb3 HN1' hB2
   obtain ⟨l,r,κ,n,e,hlr,rfl,rfl,rfl,hBr,hre,hS⟩:=hrel
   rcases hre with ⟨rfl,rfl⟩ | ⟨hr,rfl⟩
   ·obtain rfl:l=xs:=by simpa using hlr
    have hfin:Hid (NumS (fun g=>w.heap.size≤g) wr u3 l):=hS.out.row.nums _ fun g hg hc=>by rw [hB];exact hS.out.lo g hg (by rw [hc];decide)
    have hbel:Hid (Below w.heap.size w wr):=by rw [hB];exact hS.out.below
    clear hS
    go_wp2_with fail
    go_ret
    exact ⟨_,rfl,by first | exact hfin.out | (rw [←hB];exact hfin.out),by first | exact hbel.out | (rw [←hB];exact hbel.out)⟩
   ·obtain ⟨r',rfl⟩:∃r',r=n :: r':=⟨_,hr⟩
    have hll:l.length≤1099511627776:=by
     have:=congrArg List.length hlr
     rw [List.length_append] at this
     omega
    have hrow:=lh hS.out.row
    have HP:Hid (∀g cp w3,RowC (paint κ wr.heap.size 1) 1 w3 3 1 (.slice (some ⟨g,0,none⟩) (l.length+1) cp) (l.length+1) (intsV l++[.int .i64 n])→Step κ 1 wr w3 (paint κ wr.heap.size 1)→_):=fun g cp w3 k1 k2=>hS.out.push hBr k1 k2
    have happ:Hid ((l++[n])++r'=xs):=by rw [List.append_assoc];exact hlr
    obtain ⟨N,hN⟩:∃N,l.length=N:=⟨_,rfl⟩
    rw [hN] at hrow HP hll
    have hrt:(n :: r').tail=r':=rfl
    rw [hrt] at HP
    clear hS hlr hr hrt hN
    go_wp2_with (first | (at_builtin;refine wpList_pushC rfl _ _ 82 3 rfl ii _ 1 8 Tryz.underlying82 hi hz0 hz1 hz2 rfl (by decide) κ 1 _ N (intsV l) rfl hrow.out [.int .i64 n] rfl (one_of rfl) rfl (by omega) (by omega) ?_;intro g2 cp2 w4 hr4 hs4;have HQ:=HP.out g2 cp2 w4 hr4 hs4;have HN2:=lh (HNUM.out w4 _ B _ (l++[n]) r' happ.out HQ.2 HQ.1);clear hr4 hs4 HQ) | (go_at_call 83;refine HN2.out.mono ?_;rintro e w5 ⟨n5,e5,rfl,hb5,h5⟩;have H5:=lh h5;clear h5))
    go_roundg r'.length
    case rel=>exact ⟨l++[n],r',_,n5,e5,happ.out,rfl,rfl,rfl,hb5,H5.out.1,H5.out.2⟩
    case measure=>simp
end
section
open Go.RowKit
namespace Au
def addOne (L:List Nat) (x:Nat):List Nat:=if x∈L then L else L++[x]
def addAll (L l:List Nat):List Nat:=l.foldl addOne L
theorem addAll_take (L l:List Nat) (k:Nat) (h:k<l.length):addAll L (l.take (k+1))=addOne (addAll L (l.take k)) l[k]:=by
 unfold addAll
 rw [List.take_succ_eq_append_getElem h,List.foldl_append]
 rfl
theorem addOne_mem (L:List Nat) (x y:Nat):y∈addOne L x↔y∈L∨y=x:=by
 unfold addOne
 split
 ·rename_i h
  constructor
  ·exact .inl
  ·rintro (h1 | rfl)
   ·exact h1
   ·exact h
 ·simp
theorem addOne_nodup {L:List Nat} (h:L.Nodup) (x:Nat):(addOne L x).Nodup:=by
 unfold addOne
 split
 ·exact h
 ·rename_i hx
  rw [List.nodup_append]
  exact ⟨h,by simp,fun a ha b hb=>by rw [List.mem_singleton] at hb;subst hb;rintro rfl;exact hx ha⟩
theorem addOne_grows (L:List Nat) (x:Nat):∃r,addOne L x=L++r:=by
 unfold addOne
 split
 ·exact ⟨[],by simp⟩
 ·exact ⟨[x],rfl⟩
theorem addAll_spec (l:List Nat):∀(L:List Nat),L.Nodup→(addAll L l).Nodup∧(∀y,y∈addAll L l↔y∈L∨y∈l)∧∃r,addAll L l=L++r:=by
 induction l with
 | nil=>intro L h;exact ⟨h,by simp [addAll],[],by simp [addAll]⟩
 | cons x t ih=>
  intro L h
  obtain ⟨h1,h2,r,h3⟩:=ih (addOne L x) (addOne_nodup h x)
  obtain ⟨q,hq⟩:=addOne_grows L x
  have e:addAll L (x :: t)=addAll (addOne L x) t:=rfl
  rw [e]
  refine ⟨h1,fun y=>?_,q++r,by rw [h3,hq,List.append_assoc]⟩
  rw [h2,addOne_mem,List.mem_cons]
  constructor
  ·rintro ((h | h) | h)
   ·exact .inl h
   ·exact .inr (.inl h)
   ·exact .inr (.inr h)
  ·rintro (h | h | h)
   ·exact .inl (.inl h)
   ·exact .inl (.inr h)
   ·exact .inr h
def freeOf (n:List Lo) (i:Nat):List Nat:=match n[i]? with
 | some s=>s.free.map Int.toNat
 | none=>[]
structure Going (n:List Lo) (some':List Nat) (i:Nat) (L:List Nat):Prop where
 nodup:L.Nodup
 lt:∀y∈L,y<n.length
 sub:∀x∈some',x∈L
 led:∀y∈L,∃x∈some',Star n x y
 done:∀k (_:k<i) (h':k<L.length),∀y∈freeOf n L[k],y∈L
 le:i≤L.length
theorem Going.few {n:List Lo} {s:List Nat} {i:Nat} {L:List Nat} (h:Going n s i L):L.length≤n.length:=by
 have:=h.nodup.length_le_of_subset (l₂:=List.range n.length) fun x hx=>List.mem_range.2 (h.lt x hx)
 simpa using this
theorem going_start {n:List Lo} {s:List Nat} (hs:∀x∈s,x<n.length):Going n s 0 (addAll [] s):=by
 obtain ⟨h1,h2,_⟩:=addAll_spec s [] (by simp)
 exact ⟨h1,fun y hy=>hs y (by simpa using (h2 y).1 hy),fun x hx=>(h2 x).2 (.inr hx),fun y hy=>⟨y,by simpa using (h2 y).1 hy,.refl⟩,fun k h=>by omega,Nat.zero_le _⟩
theorem free_star {n:List Lo} (hm:May n) {x y z:Nat} (h:Star n x y) (hz:z∈freeOf n y):Star n x z∧z<n.length:=by
 unfold freeOf at hz
 cases hy:n[y]? with
 | none=>rw [hy] at hz;cases hz
 | some s=>
  rw [hy] at hz
  obtain ⟨f,hf,rfl⟩:=List.mem_map.1 hz
  obtain ⟨hl,rfl⟩:=List.getElem?_eq_some_iff.1 hy
  have:=hm.free y hl f hf
  exact ⟨.step h hy hf,by omega⟩
theorem Going.next {n:List Lo} (hm:May n) {s:List Nat} {i:Nat} {L:List Nat} (h:Going n s i L) (hi:i<L.length):Going n s (i+1) (addAll L (freeOf n L[i])):=by
 obtain ⟨h1,h2,r,h3⟩:=addAll_spec (freeOf n L[i]) L h.nodup
 refine ⟨h1,fun y hy=>?_,fun x hx=>(h2 x).2 (.inl (h.sub x hx)),fun y hy=>?_,fun k hk hk' y hy=>?_,?_⟩
 ·rcases (h2 y).1 hy with hy | hy
  ·exact h.lt y hy
  ·obtain ⟨x,_,hx⟩:=h.led _ (List.getElem_mem hi)
   exact (free_star hm hx hy).2
 ·rcases (h2 y).1 hy with hy | hy
  ·exact h.led y hy
  ·obtain ⟨x,hx1,hx⟩:=h.led _ (List.getElem_mem hi)
   exact ⟨x,hx1,(free_star hm hx hy).1⟩
 ·have e:(addAll L (freeOf n L[i]))[k]=L[k]'(by omega):=by
   simp only [h3]
   rw [List.getElem_append_left (by omega)]
  rw [e] at hy
  rw [h2]
  by_cases e2:k=i
  ·subst e2;exact .inr hy
  ·exact .inl (h.done k (by omega) (by omega) y hy)
 ·rw [h3,List.length_append];omega
theorem Going.all {n:List Lo} {s:List Nat} {L:List Nat} {i:Nat} (h:Going n s i L) (hi:L.length≤i) (y:Nat):y∈L↔∃x∈s,Star n x y:=by
 constructor
 ·exact h.led y
 ·rintro ⟨x,hx,hs⟩
  induction hs with
  | refl=>exact h.sub x hx
  | step h1 h2 h3 ih=>
   rename_i j s' f
   obtain ⟨k,hk,rfl⟩:=List.getElem_of_mem ih
   refine h.done k (by omega) hk _ ?_
   unfold freeOf
   rw [h2]
   exact List.mem_map.2 ⟨f,h3,rfl⟩
def idx (S:List Bool):List Nat:=(List.range S.length).filter (fun i=>S[i]? == some true)
theorem mem_idx (S:List Bool) (i:Nat):i∈idx S↔has S i:=by
 unfold idx has
 rw [List.mem_filter,List.mem_range,beq_iff_eq]
 exact ⟨fun h=>h.2,fun h=>⟨(List.getElem?_eq_some_iff.1 h).1,h⟩⟩
theorem idx_lt (S:List Bool):∀i∈idx S,i<S.length:=fun _ hi=>List.mem_range.1 (List.mem_filter.1 hi).1
theorem idx_rise (S:List Bool):(idx S).Pairwise (· < ·):=List.Pairwise.sublist List.filter_sublist List.pairwise_lt_range
theorem rise_ext {l m:List Nat} (hl:l.Pairwise (· < ·)) (hm:m.Pairwise (· < ·)) (h:∀x,x∈l↔x∈m):l=m:=by
 induction l generalizing m with
 | nil=>
  cases m with
  | nil=>rfl
  | cons y m=>exact absurd ((h y).2 (List.mem_cons_self ..)) (by simp)
 | cons x l ih=>
  cases m with
  | nil=>exact absurd ((h x).1 (List.mem_cons_self ..)) (by simp)
  | cons y m=>
   rw [List.pairwise_cons] at hl hm
   have e:x=y:=by
    rcases List.mem_cons.1 ((h x).1 (List.mem_cons_self ..)) with e | e
    ·exact e
    ·rcases List.mem_cons.1 ((h y).2 (List.mem_cons_self ..)) with e2 | e2
     ·exact e2.symm
     ·have:=hm.1 x e
      have:=hl.1 y e2
      omega
   subst e
   rw [ih hl.2 hm.2 fun z=>?_]
   constructor
   ·intro hz
    rcases List.mem_cons.1 ((h z).1 (List.mem_cons_of_mem _ hz)) with e | e
    ·have:=hl.1 z hz;omega
    ·exact e
   ·intro hz
    rcases List.mem_cons.1 ((h z).2 (List.mem_cons_of_mem _ hz)) with e | e
    ·have:=hm.1 z hz;omega
    ·exact e
theorem idx_inj {S T:List Bool} (hl:S.length=T.length) (h:idx S=idx T):S=T:=set_ext hl fun i=>by rw [←mem_idx,←mem_idx,h]
end Au
def encS (S:List Bool):ByteArray:=encI (dl 0 ((Au.idx S).map fun (i:Nat)=>(i:Int)))
theorem nat_wf {l:List Nat} (h:∀x∈l,x≤1099511627776):Wf (l.map fun (i:Nat)=>(i:Int)):=fun x hx=>by
 obtain ⟨y,hy,rfl⟩:=List.mem_map.1 hx
 have:=h y hy
 omega
theorem dl_wf (zs:List Int) (a:Int):Wf (dl a zs):=by
 induction zs generalizing a with
 | nil=>intro x hx;cases hx
 | cons y t ih=>
  intro x hx
  rcases List.mem_cons.1 hx with rfl | hx
  ·unfold wrap64;omega
  ·exact ih y x hx
theorem encS_inj {S T:List Bool} (hl:S.length=T.length) (hb:S.length≤1099511627776) (h:encS S=encS T):S=T:=by
 have h1:=encI_inj (dl_wf _ _) (dl_wf _ _) h
 have hS:∀x∈Au.idx S,x≤1099511627776:=fun x hx=>by have:=Au.idx_lt S x hx;omega
 have hT:∀x∈Au.idx T,x≤1099511627776:=fun x hx=>by have:=Au.idx_lt T x hx;omega
 have h2:=congrArg (sm 0) h1
 rw [sm_dl _ 0 (nat_wf hS),sm_dl _ 0 (nat_wf hT)] at h2
 refine Au.idx_inj hl ?_
 have h3:=congrArg (List.map Int.toNat) h2
 simp only [List.map_map] at h3
 have e:(Int.toNat ∘ fun (i:Nat)=>(i:Int))=id:=by funext i;simp
 rw [e,List.map_id,List.map_id] at h3
 exact h3
theorem sort_any (κ:Nat→Nat) (c:Nat) (w:World) (g cp:Nat) (l:List Int) (hl:l.length≤1099511627776) (h:RowC κ c w 3 1 (.slice (some ⟨g,0,none⟩) l.length cp) l.length (intsV l)):
  Calls Tryz.prog 121 #[.slice (some ⟨g,0,none⟩) l.length cp] w fun e w'=>e=.returned (.tuple #[])∧RowC κ c w' 3 1 (.slice (some ⟨g,0,none⟩) l.length cp) l.length (intsV (l.mergeSort fun x y=>decide (x≤y)))∧w.grownBy w' (some g):=by
 rcases h.own.2 with ⟨h1,_⟩ | ⟨g',cap',cur,h1,hg,hh,hnc,hcp,hcs,htake⟩
 ·cases h1
 ·simp only [Value.slice.injEq,Option.some.injEq,Addr.mk.injEq,and_true,true_and] at h1
  obtain ⟨rfl,rfl⟩:=h1
  rw [Nat.mul_one] at htake
  refine (Tryz.slices_Sort_int g 0 cp l w (holds_of_blockI hh htake) (Array.getElem?_eq_some_iff.1 hh).1 (by omega)).mono ?_
  rintro e w' ⟨rfl,n,os,rfl⟩
  exact ⟨rfl,⟨ownsRow_sortedI (by simp) (Nat.zero_le _) hh hnc hcp hcs,h.col⟩,grownBy_sortedI _⟩
theorem sorted_idx {n:List Au.Lo} {s:List Nat} {L:List Nat} {i:Nat} (h:Au.Going n s i L) (hi:L.length≤i):(L.map fun (i:Nat)=>(i:Int)).mergeSort (fun x y=>decide (x≤y))=(Au.idx (Au.spread n (Au.setOf n.length (fun j=>j∈s)))).map fun (i:Nat)=>(i:Int):=by
 obtain ⟨M,hM⟩:∃M,M=(L.map fun (i:Nat)=>(i:Int)).mergeSort (fun x y=>decide (x≤y)):=⟨_,rfl⟩
 rw [←hM]
 have hp:M.Perm (L.map fun (i:Nat)=>(i:Int)):=hM ▸ List.mergeSort_perm ..
 have hs:M.Pairwise (fun x y=>x≤y):=by
  have:=List.pairwise_mergeSort (le:=fun (x y:Int)=>decide (x≤y)) (fun a b c h1 h2=>by simp only [decide_eq_true_eq] at *;omega) (fun a b=>by simp only [Bool.or_eq_true,decide_eq_true_eq];omega) (L.map fun (i:Nat)=>(i:Int))
  rw [←hM] at this
  exact this.imp fun h=>by simpa using h
 have hnd:M.Nodup:=hp.nodup_iff.2 (by
  have:=h.nodup
  unfold List.Nodup at *
  rw [List.pairwise_map]
  exact this.imp fun h=>by omega)
 have hnn:∀x∈M,0≤x:=fun x hx=>by
  obtain ⟨y,_,rfl⟩:=List.mem_map.1 (hp.mem_iff.1 hx)
  omega
 have hlt:(M.map Int.toNat).Pairwise (· < ·):=by
  rw [List.pairwise_map]
  refine List.Pairwise.imp_of_mem (fun {a b} ha hb hab=>?_) (List.pairwise_and_iff.2 ⟨hs,hnd⟩)
  have:=hnn a ha
  have:=hnn b hb
  have h1:=hab.1
  have h2:a≠b:=hab.2
  omega
 have he:M.map Int.toNat=Au.idx (Au.spread n (Au.setOf n.length (fun j=>j∈s))):=by
  refine Au.rise_ext hlt (Au.idx_rise _) fun x=>?_
  rw [Au.mem_idx]
  unfold Au.spread
  rw [Au.has_setOf]
  have hx:x∈M.map Int.toNat↔x∈L:=by
   rw [List.mem_map]
   constructor
   ·rintro ⟨y,hy,rfl⟩
    obtain ⟨z,hz,rfl⟩:=List.mem_map.1 (hp.mem_iff.1 hy)
    simpa using hz
   ·intro hx
    exact ⟨(x:Int),hp.mem_iff.2 (List.mem_map.2 ⟨x,hx,rfl⟩),by simp⟩
  rw [hx]
  constructor
  ·intro hxL
   obtain ⟨y,hy,hst⟩:=h.led x hxL
   exact ⟨h.lt x hxL,y,(Au.has_setOf _ _ _).2 ⟨h.lt y (h.sub y hy),hy⟩,hst⟩
  ·rintro ⟨_,y,hy,hst⟩
   exact (h.all hi x).2 ⟨y,((Au.has_setOf _ _ _).1 hy).2,hst⟩
 rw [←he,List.map_map]
 have:List.map ((fun (i:Nat)=>(i:Int)) ∘ Int.toNat) M=List.map id M:=List.map_congr_left fun x hx=>by
  have:=hnn x hx
  simp only [Function.comp_apply,id_eq]
  omega
 rw [this,List.map_id]
end
section
open Go.RowKit
namespace Au
open Classical in
noncomputable def aliveB (d:List St) (j:Nat):Bool:=!decide (Dead (ofL d) (some j))
theorem aliveB_true (d:List St) (j:Nat):aliveB d j=true↔¬Dead (ofL d) (some j):=by
 unfold aliveB
 by_cases h:Dead (ofL d) (some j)
 ·simp [h]
 ·simp [h]
theorem mem_back {d:List St} {t:Nat} {a:Arc} (h:a∈back d t):∃i,i<d.length∧a.to=(i:Int)∧∃b∈arcsOf d i,b.to=(t:Int):=by
 unfold back at h
 obtain ⟨i,hi,h⟩:=List.mem_flatMap.1 h
 unfold backRow at h
 obtain ⟨b,hb,rfl⟩:=List.mem_map.1 h
 have:=List.mem_filter.1 hb
 exact ⟨i,List.mem_range.1 hi,rfl,b,this.1,by simpa using this.2⟩
theorem back_mem {d:List St} {t i:Nat} {b:Arc} (hi:i<d.length) (hb:b∈arcsOf d i) (ht:b.to=(t:Int)):∃a∈back d t,a.to=(i:Int):=by
 refine ⟨⟨b.lo,b.hi,(i:Int)⟩,?_,rfl⟩
 unfold back
 refine List.mem_flatMap.2 ⟨i,List.mem_range.2 hi,?_⟩
 unfold backRow
 exact List.mem_map.2 ⟨b,List.mem_filter.2 ⟨hb,by simp [ht]⟩,rfl⟩
structure Alv (d:List St) (L:List Nat) (i k:Nat):Prop where
 nodup:L.Nodup
 lt:∀s∈L,s<d.length
 sound:∀s∈L,¬Dead (ofL d) (some s)
 fin:∀s,s<d.length→(ofL d).fin s=true→s∈L
 closed:∀j (h:j<L.length),j<i→∀a∈back d L[j],a.to.toNat∈L
 part:∀t,L[i]?=some t→∀a∈(back d t).take k,a.to.toNat∈L
theorem Alv.few {d:List St} {L:List Nat} {i k:Nat} (h:Alv d L i k):L.length≤d.length:=by
 have:=h.nodup.length_le_of_subset (l₂:=List.range d.length) fun x hx=>List.mem_range.2 (h.lt x hx)
 simpa using this
theorem alv_start (d:List St):Alv d (finals d) 0 0 where
 nodup:=List.nodup_range.filter _
 lt:=fun s hs=>by
  unfold finals at hs
  exact List.mem_range.1 (List.mem_filter.1 hs).1
 sound:=fun s hs=>by
  unfold finals at hs
  have h:=(List.mem_filter.1 hs).2
  intro hd
  have:=hd []
  rw [acc_nil] at this
  rw [this] at h
  cases h
 fin:=fun s hs hf=>by
  unfold finals
  exact List.mem_filter.2 ⟨List.mem_range.2 hs,hf⟩
 closed:=fun j _ h=>absurd h (Nat.not_lt_zero _)
 part:=fun t _ a ha=>by simp at ha
theorem alive_back {d:List St} (hr:∀i (h:i<d.length),Row d.length 256 d[i].arcs) {t:Nat} (h:¬Dead (ofL d) (some t)) {a:Arc} (ha:a∈back d t):a.to.toNat<d.length∧¬Dead (ofL d) (some a.to.toNat):=by
 obtain ⟨i,hi,e,b,hb,ht⟩:=mem_back ha
 rw [e,Int.toNat_natCast]
 refine ⟨hi,fun hd=>h fun w=>?_⟩
 obtain ⟨k,hk,rfl⟩:=List.getElem_of_mem hb
 have h1:=look_own (arcsOf_row hr i) k hk
 have h2:=(arcsOf_row hr i).1 k hk
 rw [ht] at h1
 have h3:=(look_step d i (arcsOf d i)[k].lo.toNat t hr).1 (by rw [Int.toNat_of_nonneg h2.1];exact h1)
 have h4:=hd ((arcsOf d i)[k].lo.toNat :: w)
 rw [acc_cons,h3] at h4
 exact h4
theorem Alv.add {d:List St} (hr:∀i (h:i<d.length),Row d.length 256 d[i].arcs) {L:List Nat} {i k t:Nat} (h:Alv d L i k) (ht:L[i]?=some t) (hk:k<(back d t).length):Alv d (addOne L (back d t)[k].to.toNat) i (k+1):=by
 obtain ⟨r,hgr⟩:=addOne_grows L (back d t)[k].to.toNat
 have htm:t∈L:=List.mem_of_getElem? ht
 obtain ⟨x1,x2⟩:=alive_back hr (h.sound t htm) (List.getElem_mem hk)
 have hi:i<L.length:=(List.getElem?_eq_some_iff.1 ht).1
 have hsub:∀y,y∈L→y∈addOne L (back d t)[k].to.toNat:=fun y hy=>(addOne_mem _ _ _).2 (.inl hy)
 refine ⟨addOne_nodup h.nodup _,fun s hs=>?_,fun s hs=>?_,fun s hs hf=>hsub s (h.fin s hs hf),fun j hj hji a ha=>?_,fun t' ht' a ha=>?_⟩
 ·rcases (addOne_mem _ _ _).1 hs with h1 | rfl
  ·exact h.lt s h1
  ·exact x1
 ·rcases (addOne_mem _ _ _).1 hs with h1 | rfl
  ·exact h.sound s h1
  ·exact x2
 ·have hjL:j<L.length:=by omega
  have e:(addOne L (back d t)[k].to.toNat)[j]=L[j]:=by
   simp only [hgr,List.getElem_append_left hjL]
  rw [e] at ha
  exact hsub _ (h.closed j hjL hji a ha)
 ·rw [hgr,List.getElem?_append_left hi,ht] at ht'
  cases ht'
  rw [List.take_succ_eq_append_getElem hk] at ha
  rcases List.mem_append.1 ha with h1 | h1
  ·exact hsub _ (h.part t ht a h1)
  ·rw [List.mem_singleton] at h1
   rw [h1]
   exact (addOne_mem _ _ _).2 (.inr rfl)
theorem Alv.next {d:List St} {L:List Nat} {i k t:Nat} (h:Alv d L i k) (ht:L[i]?=some t) (hk:(back d t).length≤k):Alv d L (i+1) 0 where
 nodup:=h.nodup
 lt:=h.lt
 sound:=h.sound
 fin:=h.fin
 closed:=fun j hj hji a ha=>by
  by_cases e:j<i
  ·exact h.closed j hj e a ha
  ·have e':j=i:=by omega
   subst e'
   refine h.part _ (List.getElem?_eq_getElem hj) a ?_
   rw [List.getElem?_eq_getElem hj] at ht
   cases ht
   rw [List.take_of_length_le hk]
   exact ha
 part:=fun t _ a ha=>by simp at ha
theorem Alv.done {d:List St} (hr:∀i (h:i<d.length),Row d.length 256 d[i].arcs) {L:List Nat} {i k:Nat} (h:Alv d L i k) (hi:L.length≤i) (s:Nat) (hs:s<d.length):decide (s∈L)=aliveB d s:=by
 have hd:∀(w:List Nat) s,s<d.length→s∉L→(ofL d).acc (some s) w=false:=by
  intro w
  induction w with
  | nil=>
   intro s hs hn
   rw [acc_nil]
   cases hf:(ofL d).fin s with
   | false=>rfl
   | true=>exact absurd (h.fin s hs hf) hn
  | cons c w ih=>
   intro s hs hn
   rw [acc_cons]
   cases hst:(ofL d).step s c with
   | none=>exact acc_none _ _
   | some t=>
    have htl:=ofL_in hr hst
    refine ih t htl fun htL=>hn ?_
    have h1:=(look_step d s c t hr).2 hst
    obtain ⟨k,hk,e⟩:=look_mem h1
    obtain ⟨a,ha,ea⟩:=back_mem hs (List.getElem_mem hk) e
    obtain ⟨j,hj,ej⟩:=List.getElem_of_mem htL
    have:=h.closed j hj (by omega) a (by rw [ej];exact ha)
    rw [ea,Int.toNat_natCast] at this
    exact this
 by_cases hm:s∈L
 ·rw [decide_eq_true hm]
  exact ((aliveB_true d s).2 (h.sound s hm)).symm
 ·rw [decide_eq_false hm]
  cases ha:aliveB d s with
  | false=>rfl
  | true=>exact absurd (fun w=>hd w s hs hm) ((aliveB_true d s).1 ha)
theorem finals_next (d:List St) (i:Nat):(List.range (i+1)).filter (fun i=>(ofL d).fin i)=if (ofL d).fin i=true then (List.range i).filter (fun i=>(ofL d).fin i)++[i] else (List.range i).filter (fun i=>(ofL d).fin i):=by
 rw [List.range_succ,List.filter_append]
 by_cases h:(ofL d).fin i=true
 ·rw [if_pos h,List.filter_cons_of_pos h]
  rfl
 ·rw [if_neg h,List.filter_cons_of_neg h]
  simp
end Au
structure AlS (w0 w:World) (κ:Nat→Nat) (ga n:Nat) (v:Value) (L:List Nat):Prop where
 row:RowC κ 1 w 3 1 v L.length (natsV L)
 brow:w.rowIs ga 4 n (fun j=>.bool (decide (j∈L)))
 kb:κ ga=2
 lo:LoB κ w w0.heap.size
 below:Below w0.heap.size w0 w
section
variable {w0 w w':World} {κ κ':Nat→Nat} {ga n c:Nat} {v:Value} {L:List Nat}
theorem AlS.start (w0:World) (n:Nat):AlS w0 (w0.alloc (.cells (madeCells #[.bool false] n) 4)) (fun k=>if k=w0.heap.size then 2 else 0) w0.heap.size n (.slice none 0 0) []:=by
 refine ⟨RowC.nil _ _ _ _ _,(World.rowIs_made w0 _ n _).congr fun j _=>by simp,if_pos rfl,fun k hk hc=>?_,(Below.refl _ _).alloc (Nat.le_refl _) _⟩
 change (if _ then _ else _)≠0 at hc
 split at hc
 ·omega
 ·exact absurd rfl hc
theorem AlS.step (h:AlS w0 w κ ga n v L) (hs:Step κ c w w' κ') (h1:c≠1) (h2:c≠2) (h0:c≠0):AlS w0 w' κ' ga n v L:=
 ⟨h.row.step hs fun e=>h1 e.symm,h.brow.of_block (hs.block ga h.brow.lt (by rw [h.kb];exact fun e=>h2 e.symm)),(hs.col ga h.brow.lt).trans h.kb,h.lo.step hs h.below.size,hs.below h.lo h0 h.below h.below.size⟩
theorem AlS.add {w3:World} {x m:Nat} {v':Value} (h:AlS w0 w κ ga n v L) (hr:RowC κ' 1 w3 3 1 v' m (natsV L++[.int .i64 (x:Int)])) (hm:m=L.length+1) (hs:Step κ 1 (w.setCell ⟨ga,x,none⟩ (.bool true)) w3 κ'):AlS w0 w3 κ' ga n v' (L++[x]):=by
 have s1:Step κ 2 w (w.setCell ⟨ga,x,none⟩ (.bool true)) κ:=Step.of_set w ga x _ h.kb
 have b1:=h.brow.set x (.bool true)
 have lo1:=h.lo.step s1 h.below.size
 have be1:=s1.below h.lo (by decide) h.below h.below.size
 refine ⟨?_,(b1.of_block (hs.block ga b1.lt (by rw [h.kb];decide))).congr fun j _=>?_,(hs.col ga b1.lt).trans h.kb,lo1.step hs be1.size,hs.below lo1 (by decide) be1 be1.size⟩
 ·rw [List.length_append,←natsV_snoc,show L.length+[x].length=m from hm.symm]
  exact hr
 ·by_cases e:j=x
  ·simp [e]
  ·simp [e]
theorem AlS.mark (h:AlS w0 w κ ga n v L) (x:Nat):RowC κ 1 (w.setCell ⟨ga,x,none⟩ (.bool true)) 3 1 v L.length (natsV L):=h.row.step (Step.of_set w ga x _ h.kb) (by decide)
end
theorem aliveOf_any (F:Nat→Prop) (w:World) (u vb:Value) (d:List Au.St) (n:Nat) (hd:d.length=n) (hf:Au.Fits d) (hu:StS F w u d) (hb:RowsS F w vb ((List.range n).map (Au.back d))):
  Calls Tryz.prog 59 #[u,vb] w fun e w'=>∃ga,e=.returned (.slice (some ⟨ga,0,none⟩) n n)∧w.heap.size≤ga∧w'.rowIs ga 4 n (fun j=>.bool (Au.aliveB d j))∧Below w.heap.size w w':=by
 have hn2:n≤20000:=by have:=hf.top;omega
 have hn0:0<n:=by have:=hf.pos;omega
 obtain ⟨ad,cd,rfl,_,_,hdc⟩:=hu
 obtain ⟨gd,od,rfl,lgd,_,hdc⟩:=hdc (by omega)
 obtain ⟨ab,cb,rfl,_,_,hbc⟩:=hb
 have hln:((List.range n).map (Au.back d)).length=n:=by simp
 obtain ⟨gb,ob,rfl,lgb,_,hbc⟩:=hbc (by omega)
 have HBC:Hid (∀t,t<n→∃va,w.cell? ⟨gb,ob+t,none⟩=some va∧ArcS F w va (Au.back d t)):=fun t ht=>by
  obtain ⟨va,q1,q2⟩:=hbc t (by rw [hln];exact ht)
  rw [List.getElem_map,List.getElem_range] at q2
  exact ⟨va,q1,q2⟩
 have HDC:=lh hdc
 have HDN:=lh hd
 have HF:=lh hf
 have hmk:=run_make_row' (P:=Tryz.prog) 107 4 (.bool false) 1 Tryz.underlying107 Tryz.infoBo rfl .i64 .i64 n (by omega) (by omega)
 have H0:Hid (AlS w (w.alloc (.cells (madeCells #[.bool false] n) 4)) (fun k=>if k=w.heap.size then 2 else 0) w.heap.size n (.slice none 0 0) ((List.range 0).filter (fun i=>(Au.ofL d).fin i))):=AlS.start w n
 obtain ⟨i1,hi1,hy0,hy1,hy2⟩:=info_parts Tryz.infoN
 rw [hd,hln]
 clear hdc hd hf hbc hln
 go_enter Tryz.func59,Tryz.ntmps59
 go_wp2_with fail
 generalize w.alloc (.cells (madeCells #[.bool false] n) 4)=w1 at *
 go_loopg [6,17] n (fun gg s6 s17 wx=>∃(i:Nat) (κ:Nat→Nat),i≤n∧gg=n-i∧s17=.int .i64 i∧Hid (AlS w wx κ w.heap.size n s6 ((List.range i).filter (fun i=>(Au.ofL d).fin i))))
 case atStart=>exact ⟨0,_,Nat.zero_le _,rfl,rfl,H0⟩
 case round=>
  clear H0
  obtain ⟨i,κ,hi,rfl,rfl,hP⟩:=hrel
  obtain ⟨a6,c6,rfl,_,_,_⟩:=hP.out.row.form
  by_cases hin:i<n
  ·have j1:(i:Int)<(n:Int):=by omega
   have hid:i<d.length:=by rw [HDN.out];exact hin
   obtain ⟨c1,va,c2,hA⟩:=HDC.out i hid
   have hbl:=hP.out.below
   have e1:=(cell_same (a:=⟨gd,od+i*2,none⟩) (hbl.block gd lgd)).trans c1
   have e2:=(cell_same (a:=⟨gd,od+i*2+1,none⟩) (hbl.block gd lgd)).trans c2
   obtain ⟨aa,ca,rfl,hjunk⟩:=hA
   clear hjunk
   have hfi:(Au.ofL d).fin i=d[i].fin:=by simp [Au.ofL,List.getElem?_eq_getElem hid]
   have hnx:=lh (Au.finals_next d i)
   rw [hfi] at hnx
   have hll:((List.range i).filter (fun i=>(Au.ofL d).fin i)).length≤i:=by
    have:=List.length_filter_le (fun i=>(Au.ofL d).fin i) (List.range i)
    rw [List.length_range] at this
    exact this
   generalize d[i].fin=fin at *
   generalize d[i].arcs.length=m at *
   have h1:=hP.out.step (Step.of_alloc (c:=3) wr (.cells #[.bool fin,.slice aa m ca] 61)) (by decide) (by decide) (by decide)
   have HP1:=lh h1
   have hDb:Hid ((wr.alloc (.cells #[.bool fin,.slice aa m ca] 61)).heap[wr.heap.size]?=some (.cells #[.bool fin,.slice aa m ca] 61 (0,0))):=Go.Deep.blk_alloc_new _ _
   generalize (List.range i).filter (fun i=>(Au.ofL d).fin i)=L at *
   clear hP h1 hbl c1 c2 hfi
   cases fin with
   | false=>
    rw [if_neg (by decide)] at hnx
    have HP2:Hid (AlS w (wr.alloc (.cells #[.bool false,.slice aa m ca] 61)) (paint κ wr.heap.size 3) w.heap.size n (.slice a6 L.length c6) ((List.range (i+1)).filter (fun i=>(Au.ofL d).fin i))):=by rw [hnx.out];exact HP1
    clear hDb hnx HP1
    go_wp2_with fail
    go_roundg (n-(i+1))
    case rel=>exact ⟨i+1,_,by omega,rfl,by go_num,HP2⟩
    case measure=>omega
   | true=>
    rw [if_pos rfl] at hnx
    go_upto_region 6 with (fail)
    generalize wr.alloc (.cells #[.bool true,.slice aa m ca] 61)=w2 at *
    generalize wr.heap.size=D at *
    generalize paint κ D 3=κ2 at *
    have d0:w2.cell? ⟨D,0,none⟩=some (.bool true):=by have h:=hDb.out;simp [World.cell?,h]
    have b1:=HP1.out.brow.cell hin
    have b2:=HP1.out.brow.frozen i
    have hrr:=lh (HP1.out.mark i)
    have HAD:=lh (fun w3 v' m κ' h1 h2 h3=>HP1.out.add (w3:=w3) (v':=v') (m:=m) (κ':=κ') (x:=i) h1 h2 h3)
    rw [←hnx.out] at HAD
    clear hDb HP1 hnx
    go_upto_region 8 with (fail)
    clear b1 b2
    generalize w2.setCell ⟨w.heap.size,i,none⟩ (.bool true)=w3 at *
    go_wp2_with (at_builtin;(refine wpList_pushC rfl _ _ 82 3 rfl i1 _ 1 8 Tryz.underlying82 hi1 hy0 hy1 hy2 rfl (by decide) κ2 1 _ L.length (natsV L) rfl hrr.out [.int .i64 (i:Int)] rfl (one_of rfl) rfl (by omega) (by omega) ?_;intro g6 cp6 w6 hr6 hs6;have HP6:=lh (HAD.out w6 _ _ _ hr6 rfl hs6);clear hr6 hs6))
    go_roundg (n-(i+1))
    case rel=>exact ⟨i+1,_,by omega,rfl,by go_num,HP6⟩
    case measure=>omega
  ·obtain rfl:i=n:=by omega
   have HP2:Hid (AlS w wr κ w.heap.size i (.slice a6 ((List.range i).filter (fun i=>(Au.ofL d).fin i)).length c6) (Au.finals d)):=by
    unfold Au.finals
    rw [HDN.out]
    exact hP
   have HV:=lh (Au.alv_start d)
   have hform:((List.range i).filter (fun i=>(Au.ofL d).fin i)).length=(Au.finals d).length:=by
    unfold Au.finals
    rw [HDN.out]
   clear hP
   go_wp2_with fail
   rw [hform]
   rw [hform] at HP2
   clear hform
   go_loopg [6,9] (i+1) (fun gg s6 s9 wx=>∃(j:Nat) (κ:Nat→Nat) (L:List Nat),j≤i∧gg=i+1-j∧s9=.int .i64 j∧Hid (AlS w wx κ w.heap.size i s6 L)∧Hid (Au.Alv d L j 0)∧j≤L.length)
   case atStart=>exact ⟨0,_,_,Nat.zero_le _,rfl,rfl,HP2,HV,Nat.zero_le _⟩
   case round=>
    clear HP2 HV
    obtain ⟨j,κ,L,hj,rfl,rfl,hP,hV,hjL⟩:=hrel
    obtain ⟨a6,c6,rfl,_,_,hac⟩:=hP.out.row.form
    have hLn:=hV.out.few
    rw [HDN.out] at hLn
    by_cases hjn:j<L.length
    ·have j1:(j:Int)<(L.length:Int):=by omega
     obtain ⟨g6,rfl,lg6,_,_,hcc⟩:=hac (by omega)
     have r1:=hcc j (.int .i64 (L[j]:Int)) (by simp [natsV,List.getElem?_eq_getElem hjn])
     have hsl:L[j]<i:=by have:=hV.out.lt _ (List.getElem_mem hjn);rw [HDN.out] at this;exact this
     have htt:Hid (L[j]?=some L[j]):=List.getElem?_eq_getElem hjn
     generalize L[j]=t at *
     have j2:(t:Int)<(i:Int):=by omega
     obtain ⟨va,q1,hA⟩:=HBC.out t hsl
     have hbl:=hP.out.below
     have r2:=(cell_same (a:=⟨gb,ob+t,none⟩) (hbl.block gb lgb)).trans q1
     obtain ⟨aa,ca,rfl,_,_,hcc2⟩:=hA
     have HCC:=lh hcc2
     have hbk:=Au.back_few HF.out.row t
     rw [HDN.out] at hbk
     obtain ⟨m,hm⟩:∃m,m=(Au.back d t).length:=⟨_,rfl⟩
     have HM:=lh hm
     rw [←hm] at r2 hbk
     have hto:Hid (∀k (h:k<(Au.back d t).length),0≤(Au.back d t)[k].to∧(Au.back d t)[k].to.toNat<i):=fun k h=>by
      obtain ⟨x,hx,e,_⟩:=Au.mem_back (List.getElem_mem h)
      rw [HDN.out] at hx
      exact ⟨by omega,by omega⟩
     clear hac hcc hcc2 hm q1 hbl
     go_wp2_with fail
     go_loopg [6,46] m (fun gg s6 s46 wx=>∃(k:Nat) (κ:Nat→Nat) (L:List Nat),k≤m∧gg=m-k∧s46=.int .i64 k∧Hid (AlS w wx κ w.heap.size i s6 L)∧Hid (Au.Alv d L j k)∧Hid (L[j]?=some t))
     case atStart=>exact ⟨0,_,_,Nat.zero_le _,rfl,rfl,hP,hV,htt⟩
     case round=>
      clear hP hV htt r1 r2 hjn j1 hjL hLn
      obtain ⟨k,κ,L,hk,rfl,rfl,hP,hV,htt⟩:=hrel
      obtain ⟨a6,c6,rfl,_,_,_⟩:=hP.out.row.form
      have hLn:=hV.out.few
      rw [HDN.out] at hLn
      by_cases hkm:k<m
      ·have j3:(k:Int)<(m:Int):=by omega
       have hkl:k<(Au.back d t).length:=by rw [←HM.out];exact hkm
       obtain ⟨g2,o2,rfl,lg2,_,hcl⟩:=HCC.out (by omega)
       obtain ⟨d1,d2,d3⟩:=hcl k hkl
       have hbl:=hP.out.below
       have e1:=(cell_same (a:=⟨g2,o2+k*3,none⟩) (hbl.block g2 lg2)).trans d1
       have e2:=(cell_same (a:=⟨g2,o2+k*3+1,none⟩) (hbl.block g2 lg2)).trans d2
       have e3:=(cell_same (a:=⟨g2,o2+k*3+2,none⟩) (hbl.block g2 lg2)).trans d3
       obtain ⟨y1,y2⟩:=hto.out k hkl
       have hnx:=lh (hV.out.add HF.out.row htt.out hkl)
       have hnt:Hid ((Au.addOne L (Au.back d t)[k].to.toNat)[j]?=some t):=by
        obtain ⟨r,hg⟩:=Au.addOne_grows L (Au.back d t)[k].to.toNat
        rw [hg]
        show _=_
        rw [List.getElem?_append_left (List.getElem?_eq_some_iff.1 htt.out).1]
        exact htt.out
       clear d1 d2 d3 hcl hV
       generalize (Au.back d t)[k]=ar at *
       obtain ⟨lo,hi',ato⟩:=ar
       dsimp only at e1 e2 e3 hnx hnt y1 y2
       obtain ⟨x,rfl⟩:∃x:Nat,ato=(x:Int):=⟨ato.toNat,by omega⟩
       rw [Int.toNat_natCast] at hnx hnt y2
       have j4:(x:Int)<(i:Int):=by omega
       have h1:=hP.out.step (Step.of_alloc (c:=3) wr (.cells #[.int .i64 lo,.int .i64 hi',.int .i64 (x:Int)] 71)) (by decide) (by decide) (by decide)
       have HP1:=lh h1
       have hDb:Hid ((wr.alloc (.cells #[.int .i64 lo,.int .i64 hi',.int .i64 (x:Int)] 71)).heap[wr.heap.size]?=some (.cells #[.int .i64 lo,.int .i64 hi',.int .i64 (x:Int)] 71 (0,0))):=Go.Deep.blk_alloc_new _ _
       clear hP h1 hbl
       go_upto_region 16 with (fail)
       generalize wr.alloc (.cells #[.int .i64 lo,.int .i64 hi',.int .i64 (x:Int)] 71)=w2 at *
       generalize wr.heap.size=D at *
       generalize paint κ D 3=κ2 at *
       have d0:w2.cell? ⟨D,2,none⟩=some (.int .i64 (x:Int)):=by have h:=hDb.out;simp [World.cell?,h]
       have hgD:w.heap.size≠D:=fun e=>by
        have h:=hDb.out
        obtain ⟨c,hc,_⟩:=HP1.out.brow
        rw [←e,hc] at h
        simp only [Option.some.injEq,Obj.cells.injEq] at h
        exact absurd h.2.1 (by decide)
       have d0':(w2.setCell ⟨w.heap.size,x,none⟩ (.bool true)).cell? ⟨D,2,none⟩=some (.int .i64 (x:Int)):=(cell_same (heap_other _ _ _ _ _ fun e=>hgD e.symm)).trans d0
       have b1:=HP1.out.brow.cell y2
       have b2:=HP1.out.brow.frozen x
       have hrr:=lh (HP1.out.mark x)
       have HAD:=lh (fun w3 v' m κ' h1 h2 h3=>HP1.out.add (w3:=w3) (v':=v') (m:=m) (κ':=κ') (x:=x) h1 h2 h3)
       by_cases hxL:x∈L
       ·rw [decide_eq_true hxL] at b1
        have e:Au.addOne L x=L:=by unfold Au.addOne;rw [if_pos hxL]
        rw [e] at hnx hnt
        clear HAD hrr hDb e
        go_wp2_with fail
        go_roundg (m-(k+1))
        case rel=>exact ⟨k+1,_,_,by omega,rfl,by go_num,HP1,hnx,hnt⟩
        case measure=>omega
       ·rw [decide_eq_false hxL] at b1
        have e:Au.addOne L x=L++[x]:=by unfold Au.addOne;rw [if_neg hxL]
        rw [e] at hnx hnt
        clear HP1 hDb e hgD
        go_upto_region 18 with (fail)
        clear b1 b2
        generalize w2.setCell ⟨w.heap.size,x,none⟩ (.bool true)=w3 at *
        go_wp2_with (at_builtin;refine wpList_pushC rfl _ _ 82 3 rfl i1 _ 1 8 Tryz.underlying82 hi1 hy0 hy1 hy2 rfl (by decide) κ2 1 _ L.length (natsV L) rfl hrr.out [.int .i64 (x:Int)] rfl (one_of rfl) rfl (by omega) (by omega) ?_;intro g6 cp6 w6 hr6 hs6;have HP6:=lh (HAD.out w6 _ _ _ hr6 rfl hs6);clear hr6 hs6)
        go_roundg (m-(k+1))
        case rel=>exact ⟨k+1,_,_,by omega,rfl,by go_num,HP6,hnx,hnt⟩
        case measure=>omega
      ·obtain rfl:k=m:=by omega
       have hnx:=lh (hV.out.next htt.out (by rw [←HM.out];exact Nat.le_refl _))
       have hjn:j<L.length:=(List.getElem?_eq_some_iff.1 htt.out).1
       clear hV htt
       go_wp2_with fail
       go_roundg (i+1-(j+1))
       case rel=>exact ⟨j+1,_,_,by omega,rfl,by go_num,hP,hnx,by omega⟩
       case measure=>omega
    ·have j1:¬(j:Int)<(L.length:Int):=by omega
     have hal:Hid (∀s,s<i→decide (s∈L)=Au.aliveB d s):=fun s hs=>hV.out.done HF.out.row (by omega) s (by rw [HDN.out];exact hs)
     clear hV hac
     go_wp2_with fail
     go_ret
     exact ⟨_,rfl,Nat.le_refl _,hP.out.brow.congr fun s hs=>by rw [hal.out s hs],hP.out.below⟩
end
section
open Go.RowKit
structure TxS (w0 w:World) (n p bi q1 q2:Nat) (vst:Value) (κ:Nat→Nat) (vset:Value) (L:List Nat):Prop where
 prow:w.heap[p]?=some (.cells #[vst,.slice (some ⟨bi,0,none⟩) n n] 184 (0,0))
 kp:κ p=1
 brow:w.rowIs bi 4 n (fun j=>.bool (decide (j∈L)))
 kb:κ bi=2
 q1row:w.heap[q1]?=some (.cells #[.pointer (some ⟨p,0,none⟩)] 182 (0,0))
 k1:κ q1=3
 q2row:w.heap[q2]?=some (.cells #[vset] 82 (0,0))
 k2:κ q2=4
 set:RowC κ 5 w 3 1 vset L.length (natsV L)
 old:∀k,k<w0.heap.size→κ k=if k=p then 1 else if k=bi then 2 else 0
 kept:KeptF (fun b=>b=bi) w0 w
theorem TxS.cells {w0 w:World} {n p bi q1 q2:Nat} {vst:Value} {κ:Nat→Nat} {vset:Value} {L:List Nat} (h:TxS w0 w n p bi q1 q2 vst κ vset L):
  (w.cell? ⟨q1,0,none⟩=some (.pointer (some ⟨p,0,none⟩))∧w.cell? ⟨q2,0,none⟩=some vset∧w.frozen? ⟨q2,0,none⟩=false∧w.cell? ⟨p,0,none⟩=some vst∧w.cell? ⟨p,1,none⟩=some (.slice (some ⟨bi,0,none⟩) n n)):=by
 have h1:=h.q1row
 have h2:=h.q2row
 have h3:=h.prow
 refine ⟨?_,?_,?_,?_,?_⟩
 ·simp [World.cell?,h1]
 ·simp [World.cell?,h2]
 ·simp [World.frozen?,h2]
 ·simp [World.cell?,h3]
 ·simp [World.cell?,h3]
theorem TxS.add {w0 w w4:World} {n p bi q1 q2 x g cp N:Nat} {vst:Value} {κ κ':Nat→Nat} {vset:Value} {L:List Nat} (h:TxS w0 w n p bi q1 q2 vst κ vset L) (hx:x∉L) (hN:L.length=N)
  (hr:RowC κ' 5 w4 3 1 (.slice (some ⟨g,0,none⟩) (N+1) cp) (N+1) (natsV L++[.int .i64 (x:Int)])) (hs:Step κ 5 (w.setCell ⟨bi,x,none⟩ (.bool true)) w4 κ'):
  (w4.cell? ⟨q2,0,none⟩=some vset∧w4.frozen? ⟨q2,0,none⟩=false) ∧
  TxS w0 (w4.setCell ⟨q2,0,none⟩ (.slice (some ⟨g,0,none⟩) (N+1) cp)) n p bi q1 q2 vst κ' (.slice (some ⟨g,0,none⟩) (N+1) cp) (Au.addOne L x):=by
 have hsz:(w.setCell ⟨bi,x,none⟩ (.bool true)).heap.size=w.heap.size:=by simp [World.setCell]
 have hadd:Au.addOne L x=L++[x]:=by unfold Au.addOne;rw [if_neg hx]
 have lt:∀ {k:Nat} {o:Obj},w.heap[k]?=some o→k<w.heap.size:=fun e=>(Array.getElem?_eq_some_iff.1 e).1
 have lp:=lt h.prow
 have l1:=lt h.q1row
 have l2:=lt h.q2row
 have lb:=h.brow.lt
 have e1:∀k,k<w.heap.size→k≠bi→(w.setCell ⟨bi,x,none⟩ (.bool true)).heap[k]?=w.heap[k]?:=fun k _ hk=>heap_other _ _ _ _ _ hk
 have nb:∀ {k c:Nat},κ k=c→c≠2→k≠bi:=fun e1 e2 e3=>e2 (by rw [←e1,e3,h.kb])
 have hb1:=h.brow.set x (.bool true)
 have e2:∀k,k<w.heap.size→κ k≠5→w4.heap[k]?=(w.setCell ⟨bi,x,none⟩ (.bool true)).heap[k]?:=fun k hk hc=>hs.block k (by omega) hc
 have c2:∀k,k<w.heap.size→κ' k=κ k:=fun k hk=>hs.col k (by omega)
 have hq2:w4.heap[q2]?=some (.cells #[vset] 82 (0,0)):=(e2 q2 l2 (by rw [h.k2];decide)).trans ((e1 q2 l2 (nb h.k2 (by decide))).trans h.q2row)
 have k2':κ' q2=4:=by rw [c2 q2 l2,h.k2]
 have s5:Step κ' 4 w4 (w4.setCell ⟨q2,0,none⟩ (.slice (some ⟨g,0,none⟩) (N+1) cp)) κ':=Step.of_set w4 q2 _ _ k2'
 have l4:∀ {k:Nat},k<w.heap.size→k<w4.heap.size:=fun hk=>by have:=hs.size;omega
 have e3:∀k,k<w.heap.size→κ k≠5→κ k≠4→(w4.setCell ⟨q2,0,none⟩ (.slice (some ⟨g,0,none⟩) (N+1) cp)).heap[k]?=(w.setCell ⟨bi,x,none⟩ (.bool true)).heap[k]?:=fun k hk h1 h2=>(s5.block k (l4 hk) (by rw [c2 k hk];exact h2)).trans (e2 k hk h1)
 refine ⟨⟨by simp [World.cell?,hq2],by simp [World.frozen?,hq2]⟩,⟨?_,by rw [c2 p lp,h.kp],?_,by rw [c2 bi lb,h.kb],?_,by rw [c2 q1 l1,h.k1],?_,k2',?_,?_,?_⟩⟩
 ·exact (e3 p lp (by rw [h.kp];decide) (by rw [h.kp];decide)).trans ((e1 p lp (nb h.kp (by decide))).trans h.prow)
 ·refine World.rowIs.congr (hb1.of_block (e3 bi lb (by rw [h.kb];decide) (by rw [h.kb];decide))) fun j _=>?_
  rw [hadd]
  by_cases e:j=x
  ·subst e;simp
  ·rw [if_neg e]
   simp [e]
 ·exact (e3 q1 l1 (by rw [h.k1];decide) (by rw [h.k1];decide)).trans ((e1 q1 l1 (nb h.k1 (by decide))).trans h.q1row)
 ·rw [setCell_eq_setRow w4 q2 0 _ _ _ _ hq2]
  exact setRow_heap w4 q2 _ _ _ _ hq2
 ·have:=hr.step s5 (by decide)
  rw [natsV_snoc] at this
  rw [hadd,List.length_append,hN]
  exact this
 ·intro k hk
  rw [c2 k (Nat.lt_of_lt_of_le hk h.kept.size)]
  exact h.old k hk
 ·have k1:KeptF (fun b=>b=bi) w0 (w.setCell ⟨bi,x,none⟩ (.bool true)):=h.kept.set bi x rfl _
  have hold:∀k,k<w0.heap.size→k≠bi→κ k≠5∧κ k≠4:=fun k hk hb=>by
   rw [h.old k hk]
   by_cases e:k=p
   ·rw [if_pos e];exact ⟨by decide,by decide⟩
   ·rw [if_neg e,if_neg hb];exact ⟨by decide,by decide⟩
  refine ⟨s5.os.trans (hs.os.trans k1.os),s5.tape.trans (hs.tape.trans k1.tape),s5.output.trans (hs.output.trans k1.output),Nat.le_trans k1.size (Nat.le_trans hs.size s5.size),fun k hk hb=>?_⟩
  obtain ⟨a1,a2⟩:=hold k hk hb
  exact (e3 k (Nat.lt_of_lt_of_le hk h.kept.size) a1 a2).trans (k1.block k hk hb)
theorem add_any (w0 w:World) (n p bi q1 q2:Nat) (vst:Value) (κ:Nat→Nat) (vset:Value) (L:List Nat) (v:Value) (l:List Nat) (h:TxS w0 w n p bi q1 q2 vst κ vset L) (hv:NumS (fun g=>g≠bi) w0 v (l.map fun (i:Nat)=>(i:Int))) (hl:∀x∈l,x<n) (hn:n≤1099511627776) (hL:L.Nodup∧∀x∈L,x<n):
  Calls Tryz.prog 120 #[v,.pointer (some ⟨q1,0,none⟩),.pointer (some ⟨q2,0,none⟩)] w fun e w'=>e=.returned (.tuple #[])∧∃κ' vset',TxS w0 w' n p bi q1 q2 vst κ' vset' (Au.addAll L l):=by
 obtain ⟨a,cap,rfl,hc1,hc2,hc⟩:=hv
 simp only [List.length_map] at hc1 hc ⊢
 obtain ⟨m,hm⟩:∃m,m=l.length:=⟨_,rfl⟩
 have hm2:m≤9223372036854775807:=by omega
 have HC:=lh hc
 have HM:=lh hm
 have HLT:=lh hl
 have HFEW:Hid (∀M:List Nat,M.Nodup→(∀x∈M,x<n)→M.length≤n):=fun M h1 h2=>by
  have:=h1.length_le_of_subset (l₂:=List.range n) fun x hx=>List.mem_range.2 (h2 x hx)
  simpa using this
 have HL:=lh hL
 obtain ⟨ii,hi,hz0,hz1,hz2⟩:=info_parts Tryz.infoN
 have H0:Hid (TxS w0 w n p bi q1 q2 vst κ vset (Au.addAll L (l.take 0))):=by rw [List.take_zero];exact h
 rw [←hm]
 clear hc hc1 hm hl h hL
 go_enter Tryz.func120,Tryz.ntmps120
 go_wp2_with fail
 go_loopg [8] m (fun gg vi wx=>∃(k:Nat) (κ:Nat→Nat) (vset:Value),k≤m∧gg=m-k∧vi=.int .i64 k∧Hid (TxS w0 wx n p bi q1 q2 vst κ vset (Au.addAll L (l.take k))))
 case atStart=>exact ⟨0,_,_,Nat.zero_le _,rfl,rfl,H0⟩
 case round=>
  clear H0
  obtain ⟨k,κ,vset,hk,rfl,rfl,hT⟩:=hrel
  by_cases hkm:k<m
  ·have j1:(k:Int)<(m:Int):=by omega
   have kl:k<l.length:=by rw [←HM.out];exact hkm
   obtain ⟨g,o,rfl,hg,hgb,hcl⟩:=HC.out (by omega)
   have c0:=hcl k kl
   simp only [List.getElem_map] at c0
   have e0:=(cell_same (a:=⟨g,o+k,none⟩) (hT.out.kept.block g hg hgb)).trans c0
   have hx:=HLT.out _ (List.getElem_mem kl)
   have hnx:Hid (Au.addAll L (l.take (k+1))=Au.addOne (Au.addAll L (l.take k)) l[k]):=Au.addAll_take L l k kl
   have hML:(Au.addAll L (l.take k)).Nodup∧∀x∈Au.addAll L (l.take k),x<n:=by
    obtain ⟨h1,h2,_⟩:=Au.addAll_spec (l.take k) L HL.out.1
    refine ⟨h1,fun x hx=>?_⟩
    rcases (h2 x).1 hx with hx | hx
    ·exact HL.out.2 x hx
    ·exact HLT.out x (List.mem_of_mem_take hx)
   have hMn:=HFEW.out _ hML.1 hML.2
   generalize l[k]=x at *
   generalize Au.addAll L (l.take k)=M at *
   obtain ⟨c1,c2,c3,c4,c5⟩:=hT.out.cells
   have b1:=hT.out.brow.cell hx
   have b2:=hT.out.brow.frozen x
   have x1:(x:Int)<(n:Int):=by omega
   clear c0 hcl hML
   by_cases hxM:x∈M
   ·have hd:decide (x∈M)=true:=decide_eq_true hxM
    rw [hd] at b1
    have hT2:Hid (TxS w0 wr n p bi q1 q2 vst κ vset (Au.addAll L (l.take (k+1)))):=by
     rw [hnx.out]
     unfold Au.addOne
     rw [if_pos hxM]
     exact hT
    clear hT hd hxM hnx
    go_wp2_with fail
    go_roundg (m-(k+1))
    case rel=>exact ⟨k+1,_,_,by omega,rfl,by go_num,hT2⟩
    case measure=>omega
   ·have hd:decide (x∈M)=false:=decide_eq_false hxM
    rw [hd] at b1
    obtain ⟨N,hN⟩:∃N,M.length=N:=⟨_,rfl⟩
    have s1:Step κ 2 wr (wr.setCell ⟨bi,x,none⟩ (.bool true)) κ:=Step.of_set wr bi _ _ hT.out.kb
    have hsz:(wr.setCell ⟨bi,x,none⟩ (.bool true)).heap.size=wr.heap.size:=by simp [World.setCell]
    have HROW:Hid (RowC κ 5 (wr.setCell ⟨bi,x,none⟩ (.bool true)) 3 1 vset N (natsV M)):=by
     have:=hT.out.set.step s1 (by decide)
     rw [hN] at this
     exact this
    have HA:Hid (∀κ' g cp w4,RowC κ' 5 w4 3 1 (.slice (some ⟨g,0,none⟩) (N+1) cp) (N+1) (natsV M++[.int .i64 (x:Int)])→Step κ 5 (wr.setCell ⟨bi,x,none⟩ (.bool true)) w4 κ'→_):=fun κ' g cp w4 k1 k2=>hT.out.add hxM hN k1 k2
    rw [hN] at hMn
    have d2:(wr.setCell ⟨bi,x,none⟩ (.bool true)).cell? ⟨q2,0,none⟩=some vset:=(cell_same (a:=⟨q2,0,none⟩) (s1.block q2 (Array.getElem?_eq_some_iff.1 hT.out.q2row).1 (by rw [hT.out.k2];decide))).trans c2
    have d1:(wr.setCell ⟨bi,x,none⟩ (.bool true)).cell? ⟨q1,0,none⟩=some (.pointer (some ⟨p,0,none⟩)):=(cell_same (a:=⟨q1,0,none⟩) (s1.block q1 (Array.getElem?_eq_some_iff.1 hT.out.q1row).1 (by rw [hT.out.k1];decide))).trans c1
    have HNX:=lh hnx.out
    clear hT hd hxM hnx s1 hN
    go_wp2_with (at_builtin;refine wpList_pushC rfl _ _ 82 3 rfl ii _ 1 8 Tryz.underlying82 hi hz0 hz1 hz2 rfl (by decide) κ 5 _ N (natsV M) rfl HROW.out [.int .i64 (x:Int)] rfl (one_of rfl) (by rw [hsz];rfl) (by omega) (by omega) ?_;intro g2 cp2 w4 hr4 hs4;obtain ⟨⟨f1,f2⟩,hT4⟩:=HA.out _ g2 cp2 w4 hr4 hs4;have HT4:=lh hT4;clear hr4 hs4 hT4)
    go_roundg (m-(k+1))
    case rel=>exact ⟨k+1,_,_,by omega,rfl,by go_num,by rw [HNX.out];exact HT4⟩
    case measure=>omega
  ·obtain rfl:k=m:=by omega
   have hfin:Hid (TxS w0 wr n p bi q1 q2 vst κ vset (Au.addAll L l)):=by
    have h:=hT.out
    rw [List.take_of_length_le (by rw [←HM.out];exact Nat.le_refl _)] at h
    exact h
   clear hT
   go_wp2_with fail
   go_end0
   exact ⟨rfl,_,_,hfin.out⟩
end
section
open Go.RowKit
theorem TxS.drew {w0 w:World} {n p bi q1 q2:Nat} {vst:Value} {κ:Nat→Nat} {vset:Value} {L:List Nat} (h:TxS w0 w n p bi q1 q2 vst κ vset L):TxS w0 w.drew n p bi q1 q2 vst κ vset L:=
 ⟨h.prow,h.kp,h.brow.drew,h.kb,h.q1row,h.k1,h.q2row,h.k2,h.set.drew,h.old,h.kept.drew⟩
theorem tx_start (w:World) (n p bi:Nat) (vst:Value) (hp:w.heap[p]?=some (.cells #[vst,.slice (some ⟨bi,0,none⟩) n n] 184 (0,0))) (hb:w.rowIs bi 4 n (fun _=>.bool false)):
  TxS w ((w.alloc (.cells #[.pointer (some ⟨p,0,none⟩)] 182)).alloc (.cells #[.slice none 0 0] 82)) n p bi w.heap.size (w.heap.size+1) vst (fun k=>if k=p then 1 else if k=bi then 2 else if k=w.heap.size then 3 else if k=w.heap.size+1 then 4 else 0) (.slice none 0 0) []:=by
 have lp:p<w.heap.size:=(Array.getElem?_eq_some_iff.1 hp).1
 have lb:bi<w.heap.size:=hb.lt
 have hpb:p≠bi:=fun e=>by
  obtain ⟨c,h1,_⟩:=hb
  rw [←e,hp] at h1
  cases h1
 have e1:(w.alloc (.cells #[.pointer (some ⟨p,0,none⟩)] 182)).heap.size=w.heap.size+1:=by simp
 have e2:∀k,k<w.heap.size→((w.alloc (.cells #[.pointer (some ⟨p,0,none⟩)] 182)).alloc (.cells #[.slice none 0 0] 82)).heap[k]?=w.heap[k]?:=fun k hk=>(Go.Deep.blk_alloc_lt _ _ _ (by omega)).trans (Go.Deep.blk_alloc_lt _ _ _ hk)
 refine ⟨(e2 p lp).trans hp,by simp,?_,?_,?_,?_,?_,?_,RowC.nil _ _ _ _ _,fun k hk=>?_,KeptF.of_below (((Below.refl _ _).alloc (Nat.le_refl _) _).alloc (by simp) _)⟩
 ·exact World.rowIs.congr (hb.of_block (e2 bi lb)) fun j _=>by simp
 ·simp only [Ne.symm hpb,if_false,if_true]
 ·rw [Go.Deep.blk_alloc_lt _ _ _ (by omega)]
  exact Go.Deep.blk_alloc_new _ _
 ·simp only [if_neg (show ¬w.heap.size=p by omega),if_neg (show ¬w.heap.size=bi by omega),if_true]
 ·rw [←e1]
  exact Go.Deep.blk_alloc_new _ _
 ·rw [if_neg (by omega),if_neg (by omega),if_neg (by omega),if_pos rfl]
 ·by_cases h1:k=p
  ·rw [if_pos h1,if_pos h1]
  ·rw [if_neg h1,if_neg h1]
   by_cases h2:k=bi
   ·rw [if_pos h2,if_pos h2]
   ·rw [if_neg h2,if_neg h2,if_neg (by omega),if_neg (by omega)]
structure TxM (w0 w:World) (n p bi q1 q2:Nat) (κ:Nat→Nat) (vset:Value) (L:List Nat) (k:Nat):Prop where
 brow:w.rowIs bi 4 n (fun j=>.bool (decide (j∈L.drop k)))
 kb:κ bi=2
 q1c:w.cell? ⟨q1,0,none⟩=some (.pointer (some ⟨p,0,none⟩))∧q1<w.heap.size∧κ q1=3
 q2c:w.cell? ⟨q2,0,none⟩=some vset∧q2<w.heap.size∧κ q2=4
 pc:w.cell? ⟨p,1,none⟩=some (.slice (some ⟨bi,0,none⟩) n n)∧p<w.heap.size∧κ p=1
 set:RowC κ 5 w 3 1 vset L.length (natsV L)
 old:∀k,k<w0.heap.size→κ k≠5
 kept:KeptF (fun b=>b=bi) w0 w
theorem TxS.unmark {w0 w:World} {n p bi q1 q2:Nat} {vst:Value} {κ:Nat→Nat} {vset:Value} {L:List Nat} (h:TxS w0 w n p bi q1 q2 vst κ vset L):TxM w0 w n p bi q1 q2 κ vset L 0:=by
 obtain ⟨c1,c2,c3,c4,c5⟩:=h.cells
 have lt:∀ {k:Nat} {o:Obj},w.heap[k]?=some o→k<w.heap.size:=fun e=>(Array.getElem?_eq_some_iff.1 e).1
 refine ⟨by rw [List.drop_zero];exact h.brow,h.kb,⟨c1,lt h.q1row,h.k1⟩,⟨c2,lt h.q2row,h.k2⟩,⟨c5,lt h.prow,h.kp⟩,h.set,fun k hk=>?_,h.kept⟩
 rw [h.old k hk]
 by_cases e:k=p
 ·rw [if_pos e];decide
 ·rw [if_neg e]
  by_cases e:k=bi
  ·rw [if_pos e];decide
  ·rw [if_neg e];decide
theorem TxM.clear {w0 w:World} {n p bi q1 q2 k:Nat} {κ:Nat→Nat} {vset:Value} {L:List Nat} (h:TxM w0 w n p bi q1 q2 κ vset L k) (hk:k<L.length) (hn:L.Nodup):TxM w0 (w.setCell ⟨bi,L[k],none⟩ (.bool false)) n p bi q1 q2 κ vset L (k+1):=by
 have s1:Step κ 2 w (w.setCell ⟨bi,L[k],none⟩ (.bool false)) κ:=Step.of_set w bi _ _ h.kb
 have hsz:(w.setCell ⟨bi,L[k],none⟩ (.bool false)).heap.size=w.heap.size:=by simp [World.setCell]
 have keep:∀ {b i:Nat} {v:Value} {c:Nat},w.cell? ⟨b,i,none⟩=some v∧b<w.heap.size∧κ b=c→c≠2→(w.setCell ⟨bi,L[k],none⟩ (.bool false)).cell? ⟨b,i,none⟩=some v∧b<(w.setCell ⟨bi,L[k],none⟩ (.bool false)).heap.size∧κ b=c:=fun {b i v c} h1 h2=>
  ⟨(cell_same (a:=⟨b,i,none⟩) (s1.block b h1.2.1 (by rw [h1.2.2];exact h2))).trans h1.1,by rw [hsz];exact h1.2.1,h1.2.2⟩
 refine ⟨World.rowIs.congr (h.brow.set L[k] (.bool false)) fun j _=>?_,h.kb,keep h.q1c (by decide),keep h.q2c (by decide),keep h.pc (by decide),h.set.step s1 (by decide),h.old,h.kept.set bi _ rfl _⟩
 have hd:=List.drop_eq_getElem_cons hk
 have hnd:(L.drop k).Nodup:=List.Nodup.sublist (List.drop_sublist _ _) hn
 rw [hd,List.nodup_cons] at hnd
 by_cases e:j=L[k]
 ·rw [if_pos e]
  have:decide (j∈L.drop (k+1))=false:=decide_eq_false (by rw [e];exact hnd.1)
  rw [this]
 ·rw [if_neg e,hd]
  congr 1
  apply decide_eq_decide.2
  rw [List.mem_cons]
  constructor
  ·rintro (h1 | h1)
   ·exact absurd h1 e
   ·exact h1
  ·exact .inr
theorem textOf_any (w:World) (p bi n:Nat) (vst:Value) (d:List Au.Lo) (v:Value) (s:List Nat) (hdn:d.length=n) (hp:w.heap[p]?=some (.cells #[vst,.slice (some ⟨bi,0,none⟩) n n] 184 (0,0))) (hb:w.rowIs bi 4 n (fun _=>.bool false))
  (hst:LoS (fun g=>g≠bi) w vst d) (hv:NumS (fun g=>g≠bi) w v (s.map fun (i:Nat)=>(i:Int))) (hs:∀x∈s,x<n) (hs0:s≠[]) (hmay:Au.May d) (hn:n≤1073741824):
  Calls Tryz.prog 103 #[.pointer (some ⟨p,0,none⟩),v] w fun e w'=>e=.returned (.string (encS (Au.spread d (Au.setOf n (fun j=>j∈s)))))∧KeptF (fun b=>b=bi) w w'∧w'.rowIs bi 4 n (fun _=>.bool false):=by
 have HT0:=lh (tx_start w n p bi vst hp hb)
 have HADD:Hid (∀W κ vset L v l,TxS w W n p bi w.heap.size (w.heap.size+1) vst κ vset L→NumS (fun g=>g≠bi) w v (l.map fun (i:Nat)=>(i:Int))→(∀x∈l,x<n)→L.Nodup∧(∀x∈L,x<n)→Calls Tryz.prog 120 #[v,.pointer (some ⟨w.heap.size,0,none⟩),.pointer (some ⟨w.heap.size+1,0,none⟩)] W fun e w'=>e=.returned (.tuple #[])∧∃κ' vset',TxS w w' n p bi w.heap.size (w.heap.size+1) vst κ' vset' (Au.addAll L l)):=
  fun W κ vset L v l h1 h2 h3 h4=>add_any w W n p bi _ _ vst κ vset L v l h1 h2 h3 (by omega) h4
 have HA0:=lh (HADD.out _ _ _ [] v s HT0.out hv hs ⟨by simp,by simp⟩)
 have HG0:Hid (Au.Going d s 0 (Au.addAll [] s)):=Au.going_start (by rw [hdn];exact hs)
 have HFIN:Hid (∀i L,Au.Going d s i L→L.length≤i→(L.map fun (i:Nat)=>(i:Int)).mergeSort (fun x y=>decide (x≤y))=(Au.idx (Au.spread d (Au.setOf n (fun j=>j∈s)))).map fun (i:Nat)=>(i:Int)):=fun i L h1 h2=>by rw [←hdn];exact sorted_idx h1 h2
 have HNE:Hid (∀i L,Au.Going d s i L→0<L.length):=fun i L h=>by
  obtain ⟨x,r,rfl⟩:=List.exists_cons_of_ne_nil hs0
  exact List.length_pos_of_mem (h.sub x (List.mem_cons_self ..))
 have HLO:=lh hst
 have HMAY:=lh hmay
 have HDN:=lh hdn
 clear hp hb hst hv hs hs0 hmay hdn
 go_enter Tryz.func103,Tryz.ntmps103
 go_wp2_with (go_at_call 120;refine HA0.out.mono ?_;rintro e w2 ⟨rfl,κ2,vs2,hT2⟩;have HT2:=lh hT2;clear hT2)
 clear HA0 HT0
 generalize w.heap.size=q at *
 generalize hq2:q+1=q2 at *
 clear hq2
 go_loopg [7] n (fun gg vi wx=>∃(i:Nat) (L:List Nat) (κ:Nat→Nat) (vset:Value),gg=n-i∧vi=.int .i64 i∧L.length≤n∧i≤L.length∧Hid (Au.Going d s i L)∧Hid (TxS w wx n p bi q q2 vst κ vset L))
 case atStart=>exact ⟨0,_,κ2,vs2,rfl,rfl,by have:=HG0.out.few;rw [HDN.out] at this;exact this,HG0.out.le,HG0,HT2⟩
 case round=>
  clear HG0 HT2
  obtain ⟨i,L,κ,vset,rfl,rfl,hLn,hiL,hG,hT⟩:=hrel
  obtain ⟨c1,c2,c3,c4,c5⟩:=hT.out.cells
  obtain ⟨ln,hln⟩:∃ln,L.length=ln:=⟨_,rfl⟩
  obtain ⟨asl,csl,hvs,_,hcs,hfs⟩:=hT.out.set.form
  rw [hln] at hvs hLn hiL hfs
  subst hvs
  by_cases hin:i<ln
  ·have j1:(i:Int)<(ln:Int):=by omega
   have iL:i<L.length:=by omega
   obtain ⟨gs,rfl,_,_,_,hgc⟩:=hfs (by omega)
   have e0:wr.cell? ⟨gs,i,none⟩=some (.int .i64 (L[i]:Int)):=hgc i _ (by simp [natsV,iL])
   have hLi:L[i]<n:=by have:=hG.out.lt _ (List.getElem_mem iL);rw [HDN.out] at this;exact this
   have hnx:=hG.out.next HMAY.out iL
   have hfew:=hnx.few
   have hle:=hnx.le
   rw [HDN.out] at hfew
   have HNX:=lh hnx
   have hdl:L[i]<d.length:=by rw [HDN.out];exact hLi
   obtain ⟨ad,cd,hvd,hd1,hd2,hd3⟩:=HLO.out
   obtain ⟨gd,od,rfl,hgd,hgdb,hdc⟩:=hd3 (by omega)
   obtain ⟨f3,f4,vf,f1,f2⟩:=hdc L[i] hdl
   have f1':=(cell_same (a:=⟨gd,od+L[i]*3+2,none⟩) (hT.out.kept.block gd hgd hgdb)).trans f1
   have hfree:Hid (d[L[i]].free=(Au.freeOf d L[i]).map fun (i:Nat)=>(i:Int)):=by
    unfold Au.freeOf
    rw [List.getElem?_eq_getElem hdl,List.map_map]
    show _=_
    have:List.map ((fun (i:Nat)=>(i:Int)) ∘ Int.toNat) d[L[i]].free=List.map id d[L[i]].free:=List.map_congr_left fun x hx=>by
     have:=HMAY.out.free _ hdl x hx
     simp only [Function.comp_apply,id_eq]
     omega
    rw [this,List.map_id]
   rw [hfree.out] at f2
   have hfl:∀x∈Au.freeOf d L[i],x<n:=fun x hx=>by
    rw [←HDN.out]
    exact (Au.free_star HMAY.out .refl hx).2
   have HC:=lh (HADD.out wr.drew κ _ L vf _ hT.out.drew f2 hfl ⟨hG.out.nodup,fun x hx=>by rw [←HDN.out];exact hG.out.lt x hx⟩)
   rw [HDN.out] at hvd
   subst hvd
   have k1:(L[i]:Int)<(n:Int):=by omega
   generalize L[i]=x at *
   clear hfs hgc hG hT f2 hdc hd3 f1 hfree hfl hnx iL f3 f4 hdl
   go_wp2_with fail
   go_still_tail 12,(by kernel_rfl)
   change wpList _ _ _ _ _ wr.drew
   generalize wr.drew=wd at *
   go_wp2_with (go_at_call 120;refine HC.out.mono ?_;rintro e w3 ⟨rfl,κ3,vs3,hT3⟩;have HT3:=lh hT3;clear hT3)
   go_roundg (n-(i+1))
   case rel=>exact ⟨i+1,_,κ3,vs3,rfl,by go_num,hfew,hle,HNX,HT3⟩
   case measure=>omega
  ·have hie:i=ln:=by omega
   have j1:¬(i:Int)<(ln:Int):=by omega
   have hpos:=HNE.out i L hG.out
   obtain ⟨gs,rfl,_,_,_,hgc⟩:=hfs (by omega)
   have HS:=lh (HFIN.out i L hG.out (by omega))
   have HLX:Hid (L.Nodup∧∀x∈L,x<n):=⟨hG.out.nodup,fun x hx=>by rw [←HDN.out];exact hG.out.lt x hx⟩
   have HM0:=lh hT.out.unmark
   have HLN:=lh hln
   clear hfs hgc hG hT c4 c5 hie
   go_wp2_with fail
   go_loopg [35] ln (fun gg vi wx=>∃k:Nat,k≤ln∧gg=ln-k∧vi=.int .i64 k∧Hid (TxM w wx n p bi q q2 κ (.slice (some ⟨gs,0,none⟩) ln csl) L k))
   case atStart=>exact ⟨0,Nat.zero_le _,rfl,rfl,HM0⟩
   case round=>
    clear HM0 c1 c2 c3
    obtain ⟨k,hk,rfl,rfl,hM⟩:=hrel
    obtain ⟨b1,_,_⟩:=hM.out.q1c
    obtain ⟨b2,_,_⟩:=hM.out.q2c
    obtain ⟨b3,_,_⟩:=hM.out.pc
    obtain ⟨g1,g2,_,_,_,g3⟩:=(by have:=hM.out.set;rw [HLN.out] at this;exact this:RowC κ 5 wr 3 1 (.slice (some ⟨gs,0,none⟩) ln csl) ln (natsV L)).at
    by_cases hkl:k<ln
    ·have k1:(k:Int)<(ln:Int):=by omega
     have kL:k<L.length:=by rw [HLN.out];exact hkl
     have e0:wr.cell? ⟨gs,k,none⟩=some (.int .i64 (L[k]:Int)):=g3 k _ (by simp [natsV,kL])
     have hLk:L[k]<n:=HLX.out.2 _ (List.getElem_mem kL)
     have b4:=hM.out.brow.cell hLk
     have b5:=hM.out.brow.frozen L[k]
     have HNX:=lh (hM.out.clear kL HLX.out.1)
     have k2:(L[k]:Int)<(n:Int):=by omega
     clear hM g3
     generalize L[k]=x at *
     go_wp2_with fail
     go_roundg (ln-(k+1))
     case rel=>exact ⟨k+1,by omega,rfl,by go_num,HNX⟩
     case measure=>omega
    ·obtain rfl:k=ln:=by omega
     have hdr:L.drop k=[]:=List.drop_of_length_le (by rw [HLN.out];exact Nat.le_refl _)
     have hrow0:RowC κ 5 wr 3 1 (.slice (some ⟨gs,0,none⟩) (L.map fun (i:Nat)=>(i:Int)).length csl) (L.map fun (i:Nat)=>(i:Int)).length (intsV (L.map fun (i:Nat)=>(i:Int))):=by
      have h:=hM.out.set
      rw [HLN.out] at h
      rw [List.length_map,HLN.out]
      have e:intsV (L.map fun (i:Nat)=>(i:Int))=natsV L:=by simp [intsV,natsV]
      rw [e]
      exact h
     have HSORT:Hid (Calls Tryz.prog 121 #[.slice (some ⟨gs,0,none⟩) k csl] wr fun e w'=>e=.returned (.tuple #[])∧RowC κ 5 w' 3 1 (.slice (some ⟨gs,0,none⟩) k csl) k (intsV ((L.map fun (i:Nat)=>(i:Int)).mergeSort fun x y=>decide (x≤y)))∧wr.grownBy w' (some gs)):=by
      have:=sort_any κ 5 wr gs csl _ (by rw [List.length_map,HLN.out];omega) hrow0
      rw [List.length_map,HLN.out] at this
      exact this
     rw [HS.out] at HSORT
     have hzl:((Au.idx (Au.spread d (Au.setOf n (fun j=>j∈s)))).map fun (i:Nat)=>(i:Int)).length=k:=by rw [←HS.out,List.length_mergeSort,List.length_map,HLN.out]
     have henc:Hid (encS (Au.spread d (Au.setOf n (fun j=>j∈s)))=encI (dl 0 ((Au.idx (Au.spread d (Au.setOf n (fun j=>j∈s)))).map fun (i:Nat)=>(i:Int)))):=rfl
     generalize ((Au.idx (Au.spread d (Au.setOf n (fun j=>j∈s)))).map fun (i:Nat)=>(i:Int))=zs at *
     have HK:Hid (∀w2,wr.grownBy w2 (some gs)→w2.cell? ⟨q2,0,none⟩=some (.slice (some ⟨gs,0,none⟩) k csl)∧KeptF (fun b=>b=bi) w w2∧w2.rowIs bi 4 n (fun _=>.bool false)):=fun w2 hg=>by
      have hs:Step κ 5 wr w2 (paint κ wr.heap.size 5):=Step.of_grown hg g2
      obtain ⟨a1,a2,a3⟩:=hM.out.q2c
      refine ⟨(cell_same (a:=⟨q2,0,none⟩) (hs.block q2 a2 (by rw [a3];decide))).trans a1,⟨hg.os.trans hM.out.kept.os,hg.tape.trans hM.out.kept.tape,hg.output.trans hM.out.kept.output,Nat.le_trans hM.out.kept.size hg.size,fun b hb hbi=>?_⟩,?_⟩
      ·refine (hg.block b (Nat.lt_of_lt_of_le hb hM.out.kept.size) fun e=>?_).trans (hM.out.kept.block b hb hbi)
       have e2:b=gs:=by simpa using e
       exact hM.out.old b hb (by rw [e2,g2])
      ·refine World.rowIs.congr (hM.out.brow.of_block (hs.block bi hM.out.brow.lt (by rw [hM.out.kb];decide))) fun j _=>?_
       rw [hdr]
       simp
     have hk1:k≤1073741824:=by omega
     have HDEL:Hid (∀w2,RowC κ 5 w2 3 1 (.slice (some ⟨gs,0,none⟩) k csl) k (intsV zs)→Calls Tryz.prog 122 #[.slice (some ⟨gs,0,none⟩) k csl] w2 fun e w3=>e=.returned (.slice (some ⟨w2.heap.size,0,none⟩) k k)∧RowI w3 w2.heap.size k (fun j=>(dl 0 zs).getD j 0)∧Below w2.heap.size w2 w3):=fun w2 hr=>by
      have hr2:RowC κ 5 w2 3 1 (.slice (some ⟨gs,0,none⟩) k csl) zs.length (intsV zs):=by rw [hzl];exact hr
      have h:=deltas_any w2 _ zs (fun _=>True) (hr2.nums _ fun _ _ _=>trivial) (by omega)
      unfold NewI at h
      rw [dl_length,hzl] at h
      exact h
     have HNUMS:Hid (∀w2 w3,RowI w3 w2 k (fun j=>(dl 0 zs).getD j 0)→Calls Tryz.prog 36 #[.slice (some ⟨w2,0,none⟩) k k] w3 fun e w4=>e=.returned (.string (encI (dl 0 zs)))∧Below w3.heap.size w3 w4):=fun w2 w3 hr=>by
      refine nums_any w3 (dl 0 zs) k k w2 0 (by omega) (by rw [dl_length,hzl]) (World.rowIs.lt hr) (fun j hj=>?_) (dl_wf zs 0)
      rw [Nat.zero_add]
      have hjk:j<k:=by rw [dl_length,hzl] at hj;exact hj
      rw [World.rowIs.cell hr hjk]
      exact congrArg (fun x=>some (Value.int .i64 x)) (getD_at _ j hj)
     clear hM hrow0 g3 b1 b3 hzl
     go_wp2_with (first | (go_at_call 121;refine HSORT.out.mono ?_;rintro e w4 ⟨rfl,hr4,hg4⟩;obtain ⟨x1,x2,x3⟩:=HK.out w4 hg4;have HD:=lh (HDEL.out w4 hr4);have X2:=lh x2;have X3:=lh x3;clear hr4 hg4 x2 x3) | (go_at_call 122;refine HD.out.mono ?_;rintro e w5 ⟨rfl,hr5,hb5⟩;have HN:=lh (HNUMS.out w4.heap.size w5 hr5);have HB5:=lh hb5;clear hr5 hb5) | (go_at_call 36;refine HN.out.mono ?_;rintro e w6 ⟨rfl,hb6⟩;have HB6:=lh hb6;clear hb6))
     go_ret
     have hb:Below w4.heap.size w4 w6:=chain HB5.out HB6.out
     exact ⟨by rw [henc.out];rfl,X2.out.trans (KeptF.of_below hb),X3.out.of_block (hb.block bi X3.out.lt)⟩
end
section
open Go.RowKit
theorem OwnA.alloc {w:World} {B:Nat} {v:Value} {l:List Au.Arc} (h:OwnA w B v l) (o:Obj):OwnA (w.alloc o) B v l:=World.ownsRow.alloc h o
theorem OwnA.drewN {w:World} {B:Nat} {v:Value} {l:List Au.Arc} (h:OwnA w B v l) (n:Nat):OwnA (w.drewN n) B v l:=ownsRow_keep h fun _ _=>rfl
theorem Two.behind {w w1 w2:World} {v v':Value} (hb:Below w.heap.size w w1) (h:Ap.Two w1 w2 v v'):Ap.Two w w2 v v':=by
 rcases h with ⟨h1,h⟩ | ⟨h1,h⟩
 ·exact .inl ⟨h1,h.os.trans hb.os,h.tape.trans hb.tape,h.output.trans hb.output,Nat.le_trans hb.size h.size,fun k hk hv=>(h.block k (Nat.lt_of_lt_of_le hk hb.size) hv).trans (hb.block k hk)⟩
 ·exact .inr ⟨fun b hb'=>Nat.le_trans hb.size (h1 b hb'),h.os.trans hb.os,h.tape.trans hb.tape,h.output.trans hb.output,Nat.le_trans hb.size h.size,fun k hk hv=>(h.block k (Nat.lt_of_lt_of_le hk hb.size) hv).trans (hb.block k hk)⟩
theorem joined_any (w:World) (B:Nat) (v:Value) (l:List Au.Arc) (lo hi k:Nat) (h:OwnA w B v l) (hB:B≤w.heap.size) (hl:l.length≤1000) (hhi:∀a∈l,0≤a.hi∧a.hi≤1000) (hlo:lo≤1000∧hi≤1000):
  Calls Tryz.prog 55 #[v,.agg #[.int .i64 (lo:Int),.int .i64 (hi:Int),.int .i64 (k:Int)]] w fun e w'=>∃v',e=.returned v'∧OwnA w' B v' (Au.joined l lo hi k)∧Ap.Two w w' v v':=by
 obtain ⟨W,hW⟩:∃W,w.alloc (.cells #[.int .i64 (lo:Int),.int .i64 (hi:Int),.int .i64 (k:Int)] 71)=W:=⟨_,rfl⟩
 have hBW:Below w.heap.size w W:=by rw [←hW];exact (Below.refl _ _).alloc (Nat.le_refl _) _
 have h':OwnA W B v l:=by rw [←hW];exact h.alloc _
 have hB':B≤W.heap.size:=Nat.le_trans hB hBW.size
 obtain ⟨D,hD⟩:∃D,w.heap.size=D:=⟨_,rfl⟩
 have d0:W.cell? ⟨D,0,none⟩=some (.int .i64 (lo:Int)):=by rw [←hW,←hD];exact cell_at w [.int .i64 (lo:Int),.int .i64 (hi:Int),.int .i64 (k:Int)] _ 0 _ rfl
 have d1:W.cell? ⟨D,1,none⟩=some (.int .i64 (hi:Int)):=by rw [←hW,←hD];exact cell_at w [.int .i64 (lo:Int),.int .i64 (hi:Int),.int .i64 (k:Int)] _ 1 _ rfl
 have d2:W.cell? ⟨D,2,none⟩=some (.int .i64 (k:Int)):=by rw [←hW,←hD];exact cell_at w [.int .i64 (lo:Int),.int .i64 (hi:Int),.int .i64 (k:Int)] _ 2 _ rfl
 have HBW:=lh hBW
 have H:=lh h'
 have H0:=lh h
 obtain ⟨lo1,hi1⟩:=hlo
 rcases Au.last_cases l with rfl | ⟨r,x,rfl⟩
 ·obtain ⟨a,cap,rfl,_,_,_⟩:=h.opened
  rw [Au.joined_nil]
  have g1:decide ((0:Int)≤-1)=false:=by decide
  clear h h' hBW hhi
  go_enter Tryz.func55,Tryz.ntmps55
  go_wp2_with fail
  clear hW hD
  go_quiet (fail)
  have hB3:B≤(W.drewN nq).heap.size:=hB'
  have H3:=lh (H.out.drewN nq)
  have HB3:=lh (belowN HBW.out nq)
  have d0':(W.drewN nq).cell? ⟨D,0,none⟩=some (.int .i64 (lo:Int)):=d0
  have d1':(W.drewN nq).cell? ⟨D,1,none⟩=some (.int .i64 (hi:Int)):=d1
  have d2':(W.drewN nq).cell? ⟨D,2,none⟩=some (.int .i64 (k:Int)):=d2
  clear d0 d1 d2 H H0 HBW hB'
  generalize W.drewN nq=W3 at *
  go_wp2_with (at_builtin;refine wpList_pushA rfl _ _ rfl B hB3 (.slice a 0 cap) [] lo hi k rfl H3.out rfl (by simp) ?_;intro v' w' h1 h2)
  have H1:=lh h1
  have H2:=lh h2
  clear h1 h2
  go_ret
  exact ⟨v',rfl,H1.out,Two.behind HB3.out H2.out⟩
 ·obtain ⟨a,cap,rfl,hc1,hc2,hop⟩:=h'.opened
  obtain ⟨g,rfl,hg,hlt,hfz,hcl⟩:=hop (by simp)
  rw [Au.joined_snoc]
  have hlen:(r++[x]).length=r.length+1:=by simp
  have hat:=hcl r.length (by omega)
  simp only [List.getElem_append_right (Nat.le_refl _),Nat.sub_self,List.getElem_cons_zero] at hat
  obtain ⟨_,c1,c2⟩:=hat
  have z1:=hfz (r.length*3+1)
  have HL:=lh (fun nq c'=>OwnA.last (h'.drewN nq) hlen c')
  obtain ⟨hx0,hx1⟩:=hhi x (by simp)
  obtain ⟨xl,xh,xt⟩:=x
  dsimp only at c1 c2 hx0 hx1
  obtain ⟨n,hn⟩:∃n,n=r.length:=⟨_,rfl⟩
  have hn2:n≤1000:=by omega
  rw [hlen] at hc1 ⊢
  rw [←hn] at c1 c2 z1 hc1
  simp only [hlen,←hn] at H HL
  have hrl:Hid ((r++[(⟨xl,xh,xt⟩:Au.Arc)]).length+1≤1099511627776):=by show _≤_;rw [hlen];omega
  rw [←hn]
  have n0:decide ((0:Int)≤(n:Int))=true:=decide_eq_true (by omega)
  have n1:(0:Int)≤(n:Int):=by omega
  have n2:(n:Int)<((n+1:Nat):Int):=by omega
  clear h h' hcl hfz hlen hl hn hBW hhi hop H0
  by_cases q2:xt=(k:Int)
  ·have e2:(xt==(k:Int))=true:=beq_iff_eq.2 q2
   by_cases q1:xh+1=(lo:Int)
   ·have e1:(xh+1==(lo:Int))=true:=beq_iff_eq.2 q1
    rw [if_pos ⟨q2,q1⟩]
    clear q1
    have hqk:Hid (xt=(k:Int)):=q2
    clear q2
    go_enter Tryz.func55,Tryz.ntmps55
    go_wp2_with fail
    clear hW hD
    go_quiet (fail)
    have hB3:B≤(W.drewN nq).heap.size:=hB'
    have H3:=lh (H.out.drewN nq)
    have HB3:=lh (belowN HBW.out nq)
    have d0':(W.drewN nq).cell? ⟨D,0,none⟩=some (.int .i64 (lo:Int)):=d0
    have d1':(W.drewN nq).cell? ⟨D,1,none⟩=some (.int .i64 (hi:Int)):=d1
    have d2':(W.drewN nq).cell? ⟨D,2,none⟩=some (.int .i64 (k:Int)):=d2
    have c1':(W.drewN nq).cell? ⟨g,n*3+1,none⟩=some (.int .i64 xh):=c1
    have z1':(W.drewN nq).frozen? ⟨g,n*3+1,none⟩=false:=z1
    have HL3:=lh (HL.out nq (hi:Int))
    clear d0 d1 d2 c1 c2 z1 H HL HBW hB'
    generalize W.drewN nq=W3 at *
    obtain ⟨h1,h2⟩:=HL3.out
    have H1:=lh h1
    have H2:=lh h2
    clear h1 h2 HL3
    go_wp2_with fail
    go_ret
    exact ⟨_,rfl,by have h:=H1.out;rw [hqk.out] at h;exact h,Two.behind HB3.out (.inl ⟨rfl,H2.out⟩)⟩
   ·have e1:(xh+1==(lo:Int))=false:=beq_eq_false_iff_ne.2 q1
    rw [if_neg (fun e=>q1 e.2)]
    clear q1 q2
    go_enter Tryz.func55,Tryz.ntmps55
    go_wp2_with fail
    clear hW hD
    go_quiet (fail)
    have hB3:B≤(W.drewN nq).heap.size:=hB'
    have H3:=lh (H.out.drewN nq)
    have HB3:=lh (belowN HBW.out nq)
    have d0':(W.drewN nq).cell? ⟨D,0,none⟩=some (.int .i64 (lo:Int)):=d0
    have d1':(W.drewN nq).cell? ⟨D,1,none⟩=some (.int .i64 (hi:Int)):=d1
    have d2':(W.drewN nq).cell? ⟨D,2,none⟩=some (.int .i64 (k:Int)):=d2
    have c1':(W.drewN nq).cell? ⟨g,n*3+1,none⟩=some (.int .i64 xh):=c1
    have z1':(W.drewN nq).frozen? ⟨g,n*3+1,none⟩=false:=z1
    have HL3:=lh (HL.out nq (hi:Int))
    clear d0 d1 d2 c1 c2 z1 H HL HBW hB'
    generalize W.drewN nq=W3 at *
    go_wp2_with (at_builtin;refine wpList_pushA rfl _ _ rfl B hB3 (.slice (some ⟨g,0,none⟩) (n+1) cap) (r++[⟨xl,xh,xt⟩]) lo hi k rfl H3.out rfl hrl.out ?_;intro v' w' h1 h2)
    have H1:=lh h1
    have H2:=lh h2
    clear h1 h2
    go_ret
    exact ⟨v',rfl,by have h:=H1.out;rw [List.append_assoc] at h ⊢;exact h,Two.behind HB3.out H2.out⟩
  ·have e2:(xt==(k:Int))=false:=beq_eq_false_iff_ne.2 q2
   rw [if_neg (fun e=>q2 e.1)]
   clear q2
   go_enter Tryz.func55,Tryz.ntmps55
   go_wp2_with fail
   clear hW hD
   go_quiet (fail)
   have hB3:B≤(W.drewN nq).heap.size:=hB'
   have H3:=lh (H.out.drewN nq)
   have HB3:=lh (belowN HBW.out nq)
   have d0':(W.drewN nq).cell? ⟨D,0,none⟩=some (.int .i64 (lo:Int)):=d0
   have d1':(W.drewN nq).cell? ⟨D,1,none⟩=some (.int .i64 (hi:Int)):=d1
   have d2':(W.drewN nq).cell? ⟨D,2,none⟩=some (.int .i64 (k:Int)):=d2
   have c1':(W.drewN nq).cell? ⟨g,n*3+1,none⟩=some (.int .i64 xh):=c1
   have z1':(W.drewN nq).frozen? ⟨g,n*3+1,none⟩=false:=z1
   have HL3:=lh (HL.out nq (hi:Int))
   clear d0 d1 d2 c1 c2 z1 H HL HBW hB'
   generalize W.drewN nq=W3 at *
   go_wp2_with (at_builtin;refine wpList_pushA rfl _ _ rfl B hB3 (.slice (some ⟨g,0,none⟩) (n+1) cap) (r++[⟨xl,xh,xt⟩]) lo hi k rfl H3.out rfl hrl.out ?_;intro v' w' h1 h2)
   have H1:=lh h1
   have H2:=lh h2
   clear h1 h2
   go_ret
   exact ⟨v',rfl,by have h:=H1.out;rw [List.append_assoc] at h ⊢;exact h,Two.behind HB3.out H2.out⟩
end
section
open Go.RowKit
namespace Au
def rowOf (n:List Lo) (i:Nat):List Arc:=((n[i]?).map Lo.arcs).getD []
def rowsOf (n:List Lo) (S:List Bool):List (List Arc):=(idx S).map (rowOf n)
theorem mem_rows (n:List Lo) (S:List Bool) (a:Arc):a∈(rowsOf n S).flatten↔∃k s,has S k∧n[k]?=some s∧a∈s.arcs:=by
 unfold rowsOf
 rw [List.mem_flatten]
 constructor
 ·rintro ⟨l,hl,ha⟩
  obtain ⟨k,hk,rfl⟩:=List.mem_map.1 hl
  unfold rowOf at ha
  cases hn:n[k]? with
  | none=>rw [hn] at ha;cases ha
  | some s=>rw [hn] at ha;exact ⟨k,s,(mem_idx S k).1 hk,hn,ha⟩
 ·rintro ⟨k,s,hk,hn,ha⟩
  exact ⟨_,List.mem_map_of_mem ((mem_idx S k).2 hk),by unfold rowOf;rw [hn];exact ha⟩
noncomputable def toSet (n:List Lo) (l:List Int):List Bool:=spread n (setOf n.length (fun j=>j∈l.map Int.toNat))
theorem leads_hits (n:List Lo) (S:List Bool) (c j:Nat):leads n S c j↔j∈(hits (rowsOf n S).flatten c).map Int.toNat:=by
 rw [List.mem_map]
 constructor
 ·rintro ⟨k,s,a,h1,h2,h3,h4,h5,h6⟩
  exact ⟨a.to,(mem_hits _ _ _).2 ⟨a,(mem_rows n S a).2 ⟨k,s,h1,h2,h3⟩,⟨h4,h5⟩,rfl⟩,h6⟩
 ·rintro ⟨x,hx,rfl⟩
  obtain ⟨a,ha,⟨h1,h2⟩,rfl⟩:=(mem_hits _ _ _).1 hx
  obtain ⟨k,s,h3,h4,h5⟩:=(mem_rows n S a).1 ha
  exact ⟨k,s,a,h3,h4,h5,h1,h2,rfl⟩
theorem over_hits (n:List Lo) (S:List Bool) (c:Nat):over n S c=toSet n (hits (rowsOf n S).flatten c):=by
 unfold over toSet
 congr 1
 unfold setOf
 apply List.map_congr_left
 intro i _
 exact decide_eq_decide.2 (leads_hits n S c i)
theorem toSet_none (n:List Lo):empty (toSet n [])=true:=by
 rw [empty_iff]
 apply spread_empty
 intro i hi
 obtain ⟨_,h⟩:=(has_setOf _ _ _).1 hi
 cases h
theorem toSet_some (n:List Lo) (l:List Int) (h0:l≠[]) (h:∀x∈l,0≤x∧x<n.length):empty (toSet n l)=false:=by
 rw [←Bool.not_eq_true,empty_iff]
 intro hc
 obtain ⟨x,r,rfl⟩:=List.exists_cons_of_ne_nil h0
 have hx:=h x (List.mem_cons_self ..)
 refine hc x.toNat ((has_setOf _ _ _).2 ⟨by omega,x.toNat,(has_setOf _ _ _).2 ⟨by omega,by simp⟩,.refl⟩)
theorem hits_in {n:List Lo} (hm:May n) (S:List Bool) (c:Nat):∀x∈hits (rowsOf n S).flatten c,0≤x∧x<n.length:=by
 intro x hx
 obtain ⟨a,ha,_,rfl⟩:=(mem_hits _ _ _).1 hx
 obtain ⟨k,s,_,h2,h3⟩:=(mem_rows n S a).1 ha
 obtain ⟨hk,rfl⟩:=List.getElem?_eq_some_iff.1 h2
 have:=hm.arc k hk a h3
 exact ⟨this.2.2.2.1,this.2.2.2.2⟩
theorem rows_byte {n:List Lo} (hm:May n) (S:List Bool):∀l∈rowsOf n S,∀a∈l,byteArc a:=by
 intro l hl a ha
 obtain ⟨k,s,_,h2,h3⟩:=(mem_rows n S a).1 (List.mem_flatten.2 ⟨l,hl,ha⟩)
 obtain ⟨hk,rfl⟩:=List.getElem?_eq_some_iff.1 h2
 have:=hm.arc k hk a h3
 exact ⟨this.1,this.2.1,this.2.2.1⟩
theorem sub_leads {n:List Lo} (hm:May n) (S:List Bool) (Z:List Strch) (h:Cut (rowsOf n S).flatten 0 Z):Leads (sub n).plain S 0 (Z.map fun g=>⟨g.lo,g.hi,toSet n g.to⟩):=by
 refine cut_leads (sub n).plain S (rowsOf n S).flatten (toSet n) (fun x _ hx=>?_) (fun x _ hx=>?_) Z 0 h
 ·show (if empty (over n S x)=true then none else some (over n S x))=none
  rw [over_hits,hx,if_pos (toSet_none n)]
 ·show (if empty (over n S x)=true then none else some (over n S x))=_
  rw [over_hits,if_neg (by rw [toSet_some n _ hx (hits_in hm S x)];decide)]
def finOf (n:List Lo) (i:Nat):Bool:=((n[i]?).map Lo.fin).getD false
theorem ends_idx (n:List Lo) (S:List Bool):ends n S=(idx S).any (finOf n):=by
 rw [Bool.eq_iff_iff,ends_iff,List.any_eq_true]
 constructor
 ·rintro ⟨i,s,h1,h2,h3⟩
  exact ⟨i,(mem_idx S i).2 h1,by unfold finOf;rw [h2];exact h3⟩
 ·rintro ⟨i,h1,h2⟩
  unfold finOf at h2
  cases hn:n[i]? with
  | none=>rw [hn] at h2;cases h2
  | some s=>rw [hn] at h2;exact ⟨i,s,(mem_idx S i).1 h1,hn,h2⟩
theorem any_take (l:List Nat) (f:Nat→Bool) (k:Nat) (h:k<l.length):(l.take (k+1)).any f=((l.take k).any f||f l[k]):=by
 rw [List.take_succ_eq_append_getElem h,List.any_append]
 simp
theorem flat_le {L:List (List Arc)} {m:Nat} (h:∀l∈L,l.length≤m):L.flatten.length≤L.length*m:=by
 induction L with
 | nil=>simp
 | cons a r ih=>
  rw [List.flatten_cons,List.length_append,List.length_cons,Nat.succ_mul]
  have h1:=h a (List.mem_cons_self ..)
  have h2:=ih fun l hl=>h l (List.mem_cons_of_mem _ hl)
  omega
end Au
def ldsV (L:List (Au.Trail ByteArray)):List Value:=L.flatMap fun x=>[.int .i64 (x.lo:Int),.int .i64 (x.hi:Int),.string x.to]
theorem ldsV_snoc (l:List (Au.Trail ByteArray)) (x:Au.Trail ByteArray):ldsV l++[.int .i64 (x.lo:Int),.int .i64 (x.hi:Int),.string x.to]=ldsV (l++[x]):=by simp [ldsV]
theorem ldsV_at (l:List (Au.Trail ByteArray)):∀i (h:i<l.length),(ldsV l)[i*3]?=some (.int .i64 (l[i].lo:Int))∧(ldsV l)[i*3+1]?=some (.int .i64 (l[i].hi:Int))∧(ldsV l)[i*3+2]?=some (.string l[i].to):=by
 induction l with
 | nil=>intro i h;cases h
 | cons x t ih=>
  intro i h
  cases i with
  | zero=>exact ⟨rfl,rfl,rfl⟩
  | succ i=>
   simp only [List.length_cons,Nat.add_lt_add_iff_right] at h
   have e:(i+1)*3=i*3+1+1+1:=by omega
   rw [e]
   exact ih i h
theorem Tryz.infoLd:(Tryz.prog.info? 99).map (fun i=>(i.zero,i.size,i.bytes))=some (some (.agg #[.int .i64 0,.int .i64 0,.string ByteArray.empty]),3,32):=by kernel_rfl
def LdsS (F:Nat→Prop) (w:World) (v:Value) (L:List (Au.Trail ByteArray)):Prop:=
 ∃a cap,v=.slice a L.length cap∧L.length≤cap∧cap≤9223372036854775807∧(0<L.length→∃g o,a=some ⟨g,o,none⟩∧g<w.heap.size∧F g ∧
  ∀j (_:j<L.length),w.cell? ⟨g,o+j*3,none⟩=some (.int .i64 (L[j].lo:Int))∧w.cell? ⟨g,o+j*3+1,none⟩=some (.int .i64 (L[j].hi:Int))∧w.cell? ⟨g,o+j*3+2,none⟩=some (.string L[j].to))
theorem RowC.leads {κ:Nat→Nat} {c:Nat} {w:World} {v:Value} {L:List (Au.Trail ByteArray)} (h:RowC κ c w 99 3 v L.length (ldsV L)) (F:Nat→Prop) (hF:∀g,g<w.heap.size→κ g=c→F g):LdsS F w v L:=by
 obtain ⟨a,cap,h1,h2,h3,h4⟩:=h.form
 refine ⟨a,cap,h1,h2,h3,fun h0=>?_⟩
 obtain ⟨g,h5,h6,h7,_,h8⟩:=h4 h0
 refine ⟨g,0,h5,h6,hF g h6 h7,fun j hj=>?_⟩
 obtain ⟨a1,a2,a3⟩:=ldsV_at L j hj
 rw [Nat.zero_add]
 exact ⟨h8 _ _ a1,h8 _ _ a2,h8 _ _ a3⟩
end
end Go.Proofs.YtmdefnbpimfbgaaGreatDoor

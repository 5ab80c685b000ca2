/-
  Lemmas on automata, dictionaries and the walk over them, the program's calls and the given ones.
-/
import Derived.Test.YtmdefnbpimfbgaaGreatDoorQ17
set_option maxRecDepth 100000
set_option maxHeartbeats 16000000
namespace Go.Proofs.YtmdefnbpimfbgaaGreatDoor
namespace F12
open Go.RowKit Go.Maps
namespace Fs
def nth:Nat→List UInt8→List UInt8
 | 0,s=>s
 | k+1,s=>past (nth k s)
def vl (s:List UInt8) (j k:Nat):Int:=if k<j then cN (nth k s) else 0
theorem past_le (s:List UInt8):(past s).length≤s.length:=by unfold past;rw [List.length_drop];omega
theorem nth_le (k:Nat) (s:List UInt8):(nth k s).length≤s.length:=by
 induction k with
 | zero=>exact Nat.le_refl _
 | succ k ih=>exact Nat.le_trans (past_le _) ih
end Fs
theorem aggW (w:World):(isAgg 118).run Tryz.prog w=.ok true w:=by kernel_rfl
theorem sizeW (w:World):(sizeOf 118).run Tryz.prog w=.ok 3 w:=by kernel_rfl
theorem loadW (w:World) (b:Nat) (c0 c1 c2:Value) (h:RowT 118 w b #[c0,c1,c2]):(loadVar 118 ⟨b,0,none⟩).run Tryz.prog w=.ok (.agg #[c0,c1,c2]) w:=by
 unfold loadVar
 rw [Sem.run_bind,aggW]
 simp only [Result.andThen_ok,if_true,Sem.run_bind,sizeW]
 have h:=run_loadCells_list (P:=Tryz.prog) w ⟨b,0,none⟩ [c0,c1,c2] (fun j v hj=>by
  match j,hj with
  | 0,hj=>simp at hj;subst hj;simpa [Addr.add] using h.cell 0
  | 1,hj=>simp at hj;subst hj;simpa [Addr.add] using h.cell 1
  | 2,hj=>simp at hj;subst hj;simpa [Addr.add] using h.cell 2)
 rw [show [c0,c1,c2].length=3 from rfl] at h
 rw [h]
 rfl
structure WayB (w wx:World) (b bx:Nat) (s:List UInt8) (j:Nat):Prop where
 way:RowT 118 wx bx #[.int .i64 (Fs.vl s j 0),.int .i64 (Fs.vl s j 1),.int .i64 (Fs.vl s j 2)]
 ptr:RowT 194 wx (bx+1) #[.pointer (some ⟨bx,0,none⟩),.pointer (some ⟨bx,1,none⟩),.pointer (some ⟨bx,2,none⟩)]
 cur:CurT wx b (Fs.nth j s)
 kept:KeptF (fun k=>k=b) w wx
 lt:b<w.heap.size
 new:bx=w.heap.size
theorem wayB_made {w:World} {b:Nat} {s:List UInt8} (hc:CurT w b s):WayB w ((w.alloc (.cells #[.int .i64 0,.int .i64 0,.int .i64 0] 118)).alloc (.cells #[.pointer (some ⟨w.heap.size,0,none⟩),.pointer (some ⟨w.heap.size,1,none⟩),.pointer (some ⟨w.heap.size,2,none⟩)] 194)) b w.heap.size s 0:=by
 have s1:(w.alloc (.cells #[.int .i64 0,.int .i64 0,.int .i64 0] 118)).heap.size=w.heap.size+1:=World.size_alloc _ _
 have hl:=RowT.lt hc
 refine ⟨?_,?_,?_,?_,hl,rfl⟩
 ·show _=_
  rw [Go.Deep.blk_alloc_lt _ _ _ (by omega)]
  exact Go.Deep.blk_alloc_new _ _
 ·show _=_
  rw [←s1]
  exact Go.Deep.blk_alloc_new _ _
 ·show _=_
  rw [Go.Deep.blk_alloc_lt _ _ _ (by omega),Go.Deep.blk_alloc_lt _ _ _ (by omega)]
  exact hc
 ·have hb:Below w.heap.size w ((w.alloc (.cells #[.int .i64 0,.int .i64 0,.int .i64 0] 118)).alloc (.cells #[.pointer (some ⟨w.heap.size,0,none⟩),.pointer (some ⟨w.heap.size,1,none⟩),.pointer (some ⟨w.heap.size,2,none⟩)] 194)):=((Below.refl _ _).alloc (Nat.le_refl _) _).alloc (by omega) _
  exact ⟨hb.os,hb.tape,hb.output,hb.size,fun k hk _=>hb.block k hk⟩
theorem WayB.step {w wx:World} {b bx:Nat} {s:List UInt8} {j:Nat} (h:WayB w wx b bx s j) (hj:j<3):WayB w ((wx.setCell ⟨b,0,none⟩ (.string (bs (Fs.past (Fs.nth j s))))).setCell ⟨bx,j,none⟩ (.int .i64 (Fs.cN (Fs.nth j s)))) b bx s (j+1):=by
 have hb:b≠bx:=by have:=h.lt;have:=h.new;omega
 have hb2:b≠bx+1:=by have:=h.lt;have:=h.new;omega
 have hn:=h.new
 have hs:=h.kept.size
 have w2:RowT 118 (wx.setCell ⟨b,0,none⟩ (.string (bs (Fs.past (Fs.nth j s))))) bx #[.int .i64 (Fs.vl s j 0),.int .i64 (Fs.vl s j 1),.int .i64 (Fs.vl s j 2)]:=h.way.keep (heap_other _ _ _ _ _ (fun e=>hb e.symm))
 refine ⟨?_,?_,?_,?_,h.lt,h.new⟩
 ·have h3:=w2.set j (.int .i64 (Fs.cN (Fs.nth j s)))
  have e:(#[.int .i64 (Fs.vl s j 0),.int .i64 (Fs.vl s j 1),.int .i64 (Fs.vl s j 2)]:Array Value).setIfInBounds j (.int .i64 (Fs.cN (Fs.nth j s)))=#[.int .i64 (Fs.vl s (j+1) 0),.int .i64 (Fs.vl s (j+1) 1),.int .i64 (Fs.vl s (j+1) 2)]:=by
   rcases (by omega:j=0∨j=1∨j=2) with rfl | rfl | rfl <;> simp [Fs.vl]
  rw [e] at h3
  exact h3
 ·exact (h.ptr.keep (heap_other _ _ _ _ _ (fun e=>hb2 e.symm))).keep (heap_other _ _ _ _ _ (by omega))
 ·exact RowT.keep (h.cur.set _) (heap_other _ _ _ _ _ hb)
 ·exact ⟨h.kept.os,h.kept.tape,h.kept.output,by simpa [World.setCell] using hs,fun k hk hf=>by
   rw [heap_other _ _ _ _ _ (by omega),heap_other _ _ _ _ _ hf]
   exact h.kept.block k hk hf⟩
def rdWay (s:List UInt8):Int:=if Fs.cE s≠0 then Fs.cE s else if Fs.cE (Fs.past s)≠0 then Fs.cE (Fs.past s) else Fs.cE (Fs.past (Fs.past s))
def WayPost (w:World) (b:Nat) (s:List UInt8) (e:Ending) (w':World):Prop:=
 KeptF (fun k=>k=b) w w'∧((rdWay s≠0∧e=.returned (.tuple #[.agg #[.int .i64 0,.int .i64 0,.int .i64 0],.int .i64 (rdWay s)])) ∨
  (rdWay s=0∧e=.returned (.tuple #[.agg #[.int .i64 (Fs.cN s),.int .i64 (Fs.cN (Fs.past s)),.int .i64 (Fs.cN (Fs.past (Fs.past s)))],.int .i64 0])∧CurT w' b (Fs.past (Fs.past (Fs.past s)))))
theorem rdWay_at {s:List UInt8} {j:Nat} (hj:j<3) (h:∀i,i<j→Fs.cE (Fs.nth i s)=0) (he:Fs.cE (Fs.nth j s)≠0):rdWay s=Fs.cE (Fs.nth j s):=by
 unfold rdWay
 rcases (by omega:j=0∨j=1∨j=2) with rfl | rfl | rfl
 ·exact if_pos he
 ·rw [if_neg (fun q=>q (h 0 (by omega)))]
  exact if_pos he
 ·rw [if_neg (fun q=>q (h 0 (by omega))),if_neg (fun q=>q (h 1 (by omega)))]
  rfl
theorem rdWay_all {s:List UInt8} (h:∀i,i<3→Fs.cE (Fs.nth i s)=0):rdWay s=0:=by
 unfold rdWay
 rw [if_neg (fun q=>q (h 0 (by omega))),if_neg (fun q=>q (h 1 (by omega)))]
 exact h 2 (by omega)
theorem _root_.Go.Proofs.YtmdefnbpimfbgaaGreatDoor.KeptF.newSet {F:Nat→Prop} {w w':World} (h:KeptF F w w') {b:Nat} (i:Nat) (hb:w.heap.size≤b) (v:Value):KeptF F w (w'.setCell ⟨b,i,none⟩ v):=
 ⟨h.os,h.tape,h.output,by have:=h.size;simpa [World.setCell] using this,fun k hk hf=>by
  rw [heap_other _ _ _ _ _ (by omega)]
  exact h.block k hk hf⟩
theorem readWay_any (s:List UInt8) (b:Nat) (w:World) (hc:CurT w b s) (hs:s.length≤140737488355328):
  Calls Tryz.prog 92 #[.pointer (some ⟨b,0,none⟩)] w (WayPost w b s):=by
 have HM:=lh (wayB_made hc)
 have HS:=lh hs
 clear hc hs
 go_enter Tryz.func92,Tryz.ntmps92
 go_wp2_with fail
 go_loopg [11] 3 (fun gg iv wx=>∃j:Nat,j≤3∧gg=3-j∧iv=.int .i64 (j:Int)∧Hid (WayB w wx b w.heap.size s j)∧Hid (∀i,i<j→Fs.cE (Fs.nth i s)=0))
 case atStart=>exact ⟨0,by omega,rfl,rfl,HM.out,fun i hi=>by omega⟩
 case round=>
  clear HM
  obtain ⟨j,hj,rfl,rfl,hB,hE⟩:=hrel
  by_cases hj3:j<3
  ·have i1:(j:Int)<3:=by omega
   have i2:0≤(j:Int):=by omega
   have c1:wr.cell? ⟨w.heap.size+1,j,none⟩=some (.pointer (some ⟨w.heap.size,j,none⟩)):=by
    rw [hB.out.ptr.cell j]
    rcases (by omega:j=0∨j=1∨j=2) with rfl | rfl | rfl <;> rfl
   obtain ⟨bx,hbx⟩:∃bx,w.heap.size=bx:=⟨_,rfl⟩
   have hway:∃v,wr.cell? ⟨w.heap.size,j,none⟩=some v:=by
    refine ⟨.int .i64 (Fs.vl s j j),?_⟩
    rw [hB.out.way.cell j]
    rcases (by omega:j=0∨j=1∨j=2) with rfl | rfl | rfl <;> rfl
   obtain ⟨vj,hway⟩:=hway
   have hbne:(⟨w.heap.size,j,none⟩:Addr).block≠(⟨b,0,none⟩:Addr).block:=by have:=hB.out.lt;show w.heap.size≠b;omega
   obtain ⟨W2,hW2⟩:∃W2,W2=wr.setCell ⟨b,0,none⟩ (.string (bs (Fs.past (Fs.nth j s)))):=⟨_,rfl⟩
   have hk2:W2.heap[w.heap.size]?=wr.heap[w.heap.size]?:=by rw [hW2];exact heap_other _ _ _ _ _ hbne
   have r2:RowT 118 W2 w.heap.size #[.int .i64 (Fs.vl s j 0),.int .i64 (Fs.vl s j 1),.int .i64 (Fs.vl s j 2)]:=hB.out.way.keep hk2
   have d1:W2.cell? ⟨w.heap.size,j,none⟩=some vj:=by
    rw [r2.cell j,←hB.out.way.cell j,hway]
   have d2:W2.frozen? ⟨w.heap.size,j,none⟩=false:=r2.frozen j
   have HCNT:=count_c (Fs.nth j s) b wr hB.out.cur (Nat.le_trans (Fs.nth_le j s) HS.out)
   have hst:=hB.out.step hj3
   rw [←hW2] at HCNT hst
   have HST:=lh hst
   have HCNT:=lh HCNT
   have HJ:=lh hj3
   have r3:=hst.way
   have hn0:Fs.cE (Fs.nth j s)≠0→Fs.cN (Fs.nth j s)=0:=fun q=>((rdCount_bd (Fs.nth j s) _ _ _ rfl).2.2.2 q).1
   obtain ⟨n,hn⟩:∃n,n=Fs.cN (Fs.nth j s):=⟨_,rfl⟩
   rw [←hn] at HCNT HST r3 hst
   have HR3:=lh r3
   by_cases he:Fs.cE (Fs.nth j s)=0
   ·rw [he] at HCNT
    have HE2:Hid (∀i,i<j+1→Fs.cE (Fs.nth i s)=0):=fun i hi=>by
     rcases Nat.lt_or_ge i j with h | h
     ·exact hE.out i h
     ·obtain rfl:i=j:=by omega
      exact he
    clear hj hj3 hway hbne hW2 hk2 r2 r3 hn0 hn he hB hE hst hbx
    go_wp2_with (go_at_call 68;refine HCNT.out.mono ?_;rintro e1 w1 ⟨rfl,rfl⟩)
    go_roundg (3-(j+1))
    case rel=>exact ⟨j+1,by have:=HJ.out;omega,rfl,by go_num,HST.out,HE2⟩
    case measure=>have:=HJ.out;omega
   ·have HRW:=lh (rdWay_at hj3 hE.out he)
    obtain ⟨E,hE3⟩:∃E,E=Fs.cE (Fs.nth j s):=⟨_,rfl⟩
    rw [←hE3] at HCNT he HRW
    have he2:¬E=0:=he
    have g0:=r3.frozen 0
    have g1:=r3.cell 0
    have q1:=r3.set 0 (.int .i64 0)
    have g2:((W2.setCell ⟨w.heap.size,j,none⟩ (.int .i64 n)).setCell ⟨w.heap.size,0,none⟩ (.int .i64 0)).cell? ⟨w.heap.size,1,none⟩=some (.int .i64 (Fs.vl s (j+1) 1)):=q1.cell 1
    have g3:=q1.frozen 1
    have q2:=q1.set 1 (.int .i64 0)
    have g4:(((W2.setCell ⟨w.heap.size,j,none⟩ (.int .i64 n)).setCell ⟨w.heap.size,0,none⟩ (.int .i64 0)).setCell ⟨w.heap.size,1,none⟩ (.int .i64 0)).cell? ⟨w.heap.size,2,none⟩=some (.int .i64 (Fs.vl s (j+1) 2)):=q2.cell 2
    have g5:=q2.frozen 2
    have q3:RowT 118 ((((W2.setCell ⟨w.heap.size,j,none⟩ (.int .i64 n)).setCell ⟨w.heap.size,0,none⟩ (.int .i64 0)).setCell ⟨w.heap.size,1,none⟩ (.int .i64 0)).setCell ⟨w.heap.size,2,none⟩ (.int .i64 0)) w.heap.size #[.int .i64 0,.int .i64 0,.int .i64 0]:=q2.set 2 (.int .i64 0)
    have HQ:=lh q3
    have HKF:Hid (KeptF (fun k=>k=b) w ((((W2.setCell ⟨w.heap.size,j,none⟩ (.int .i64 n)).setCell ⟨w.heap.size,0,none⟩ (.int .i64 0)).setCell ⟨w.heap.size,1,none⟩ (.int .i64 0)).setCell ⟨w.heap.size,2,none⟩ (.int .i64 0))):=((hst.kept.newSet _ (Nat.le_refl _) _).newSet _ (Nat.le_refl _) _).newSet _ (Nat.le_refl _) _
    clear hj hj3 hway hbne hW2 hk2 r2 hn0 hn hB hE hst hbx r3 hE3 q1 q2 q3
    go_wp2_with (go_at_call 68;refine HCNT.out.mono ?_;rintro e1 w1 ⟨rfl,rfl⟩)
    refine bodyPost_ret (results_cell_tmp rfl _ _ ⟨w.heap.size,0,none⟩ (.agg #[.int .i64 0,.int .i64 0,.int .i64 0]) rfl (loadW _ _ _ _ _ HQ.out)) rfl ?_
    exact ⟨HKF.out,.inl ⟨by rw [HRW.out];exact he,by rw [HRW.out];rfl⟩⟩
  ·obtain rfl:j=3:=by omega
   have r0:=hB.out.way
   have k1:=r0.cell 1
   have k2:=r0.cell 2
   have g0:=r0.frozen 0
   have g1:=r0.cell 0
   have q1:=r0.set 0 (.int .i64 (Fs.vl s 3 0))
   have g2:((wr).setCell ⟨w.heap.size,0,none⟩ (.int .i64 (Fs.vl s 3 0))).cell? ⟨w.heap.size,1,none⟩=some (.int .i64 (Fs.vl s 3 1)):=q1.cell 1
   have g3:=q1.frozen 1
   have q2:=q1.set 1 (.int .i64 (Fs.vl s 3 1))
   have g4:(((wr).setCell ⟨w.heap.size,0,none⟩ (.int .i64 (Fs.vl s 3 0))).setCell ⟨w.heap.size,1,none⟩ (.int .i64 (Fs.vl s 3 1))).cell? ⟨w.heap.size,2,none⟩=some (.int .i64 (Fs.vl s 3 2)):=q2.cell 2
   have g5:=q2.frozen 2
   have q3:RowT 118 ((((wr).setCell ⟨w.heap.size,0,none⟩ (.int .i64 (Fs.vl s 3 0))).setCell ⟨w.heap.size,1,none⟩ (.int .i64 (Fs.vl s 3 1))).setCell ⟨w.heap.size,2,none⟩ (.int .i64 (Fs.vl s 3 2))) w.heap.size #[.int .i64 (Fs.vl s 3 0),.int .i64 (Fs.vl s 3 1),.int .i64 (Fs.vl s 3 2)]:=q2.set 2 (.int .i64 (Fs.vl s 3 2))
   have HQ:=lh q3
   have HRW:=lh (rdWay_all hE.out)
   have HKF:Hid (KeptF (fun k=>k=b) w (((wr.setCell ⟨w.heap.size,0,none⟩ (.int .i64 (Fs.vl s 3 0))).setCell ⟨w.heap.size,1,none⟩ (.int .i64 (Fs.vl s 3 1))).setCell ⟨w.heap.size,2,none⟩ (.int .i64 (Fs.vl s 3 2)))):=((hB.out.kept.newSet _ (Nat.le_refl _) _).newSet _ (Nat.le_refl _) _).newSet _ (Nat.le_refl _) _
   have HCU:Hid (CurT (((wr.setCell ⟨w.heap.size,0,none⟩ (.int .i64 (Fs.vl s 3 0))).setCell ⟨w.heap.size,1,none⟩ (.int .i64 (Fs.vl s 3 1))).setCell ⟨w.heap.size,2,none⟩ (.int .i64 (Fs.vl s 3 2))) b (Fs.nth 3 s)):=by
    have hne:b≠w.heap.size:=by have:=hB.out.lt;omega
    exact RowT.keep (RowT.keep (RowT.keep hB.out.cur (heap_other _ _ _ _ _ hne)) (heap_other _ _ _ _ _ hne)) (heap_other _ _ _ _ _ hne)
   clear r0 q1 q2 q3 hB hE
   go_wp2_with fail
   refine bodyPost_ret (results_cell_tmp rfl _ _ ⟨w.heap.size,0,none⟩ _ rfl (loadW _ _ _ _ _ HQ.out)) rfl ?_
   exact ⟨HKF.out,.inr ⟨HRW.out,rfl,HCU.out⟩⟩
end F12
namespace F12
open Go.RowKit Go.Maps
structure NodB (w wx:World) (b:Nat) (s:List UInt8) (f:Bool) (o:Int) (v:Value) (acc:List (UInt8 × Int × Nat)):Prop where
 res:RowT 115 wx w.heap.size #[.bool false,.int .i64 0,.slice none 0 0]
 nod:RowT 115 wx (w.heap.size+1) #[.bool f,.int .i64 o,v]
 ways:OwnY wx w.heap.size v acc
 cur:CurT wx b s
 kept:KeptF (fun k=>k=b) w wx
 lt:b<w.heap.size
theorem nodB_made {w:World} {b:Nat} {s:List UInt8} (hc:CurT w b s):NodB w ((w.alloc (.cells #[.bool false,.int .i64 0,.slice none 0 0] 115)).alloc (.cells #[.bool false,.int .i64 0,.slice none 0 0] 115)) b s false 0 (.slice none 0 0) []:=by
 have s1:(w.alloc (.cells #[.bool false,.int .i64 0,.slice none 0 0] 115)).heap.size=w.heap.size+1:=World.size_alloc _ _
 have hl:=RowT.lt hc
 refine ⟨?_,?_,World.ownsRow_nil _ _ _ _,?_,?_,hl⟩
 ·show _=_
  rw [Go.Deep.blk_alloc_lt _ _ _ (by omega)]
  exact Go.Deep.blk_alloc_new _ _
 ·show _=_
  rw [←s1]
  exact Go.Deep.blk_alloc_new _ _
 ·show _=_
  rw [Go.Deep.blk_alloc_lt _ _ _ (by omega),Go.Deep.blk_alloc_lt _ _ _ (by omega)]
  exact hc
 ·have hb:Below w.heap.size w ((w.alloc (.cells #[.bool false,.int .i64 0,.slice none 0 0] 115)).alloc (.cells #[.bool false,.int .i64 0,.slice none 0 0] 115)):=((Below.refl _ _).alloc (Nat.le_refl _) _).alloc (by omega) _
  exact ⟨hb.os,hb.tape,hb.output,hb.size,fun k hk _=>hb.block k hk⟩
section
variable {w wx:World} {b:Nat} {s:List UInt8} {f:Bool} {o:Int} {v:Value} {acc:List (UInt8 × Int × Nat)}
theorem NodB.far (h:NodB w wx b s f o v acc):∀k,v.ownBlock=some k→w.heap.size≤k∧k≠w.heap.size∧k≠w.heap.size+1:=fun k hk=>by
 obtain ⟨h1,h2,c,fz,h3⟩:=own_kind h.ways k hk
 refine ⟨h1,fun e=>?_,fun e=>?_⟩
 ·subst e
  have:=kind_inj h3 h.res
  revert this
  decide
 ·subst e
  have:=kind_inj h3 h.nod
  revert this
  decide
theorem NodB.go {w':World} {s':List UInt8} (h:NodB w wx b s f o v acc) (k:KeptF (fun k=>k=b) wx w') (hc:CurT w' b s'):NodB w w' b s' f o v acc:=by
 have hlt:=h.lt
 exact ⟨h.res.keep (k.block _ h.res.lt (by omega)),h.nod.keep (k.block _ h.nod.lt (by omega)),ownsRow_keep h.ways fun q hq=>k.block q (own_kind h.ways q hq).2.1 (by have:=(h.far q hq).1;omega),hc,h.kept.trans k,hlt⟩
theorem NodB.count (h:NodB w wx b s f o v acc) (r:List UInt8):NodB w (wx.setCell ⟨b,0,none⟩ (.string (bs r))) b r f o v acc:=
 h.go (KeptF.set (F:=fun k=>k=b) (KeptF.refl _ _) b 0 rfl _) (h.cur.set _)
theorem NodB.below {w':World} (h:NodB w wx b s f o v acc) (k:Below wx.heap.size wx w'):NodB w w' b s f o v acc:=
 h.go (KeptF.of_below k) (RowT.keep h.cur (k.block _ (RowT.lt h.cur)))
theorem NodB.put (h:NodB w wx b s f o v acc) (i:Nat) (x:Value) {f':Bool} {o':Int} (hx:(#[.bool f,.int .i64 o,v]:Array Value).setIfInBounds i x=#[.bool f',.int .i64 o',v]):NodB w (wx.setCell ⟨w.heap.size+1,i,none⟩ x) b s f' o' v acc:=by
 have hlt:=h.lt
 refine ⟨h.res.keep (heap_other _ _ _ _ _ (by omega)),?_,ownsRow_keep h.ways fun q hq=>heap_other _ _ _ _ _ (h.far q hq).2.2,RowT.keep h.cur (heap_other _ _ _ _ _ (by omega)),h.kept.newSet _ (by omega) _,hlt⟩
 have h1:=h.nod.set i x
 rw [hx] at h1
 exact h1
theorem NodB.push {w5:World} {g cap:Nat} {c:UInt8} {x:Int} {t:Nat} (h:NodB w wx b s f o v acc) (hw:w5.ownsRow w.heap.size 118 3 (.slice (some ⟨g,0,none⟩) (acc.length+1) cap) (acc.length+1) (wyV acc++[.int .i64 (c.toNat:Nat),.int .i64 x,.int .i64 (t:Nat)])) (hg:Grew wx w5 v (.slice (some ⟨g,0,none⟩) (acc.length+1) cap)):
  (w5.cell? ⟨w.heap.size+1,2,none⟩=some v∧w5.frozen? ⟨w.heap.size+1,2,none⟩=false)∧NodB w (w5.setCell ⟨w.heap.size+1,2,none⟩ (.slice (some ⟨g,0,none⟩) (acc.length+1) cap)) b s f o (.slice (some ⟨g,0,none⟩) (acc.length+1) cap) (acc++[(c,x,t)]):=by
 have hlt:=h.lt
 have hn:RowT 115 w5 (w.heap.size+1) #[.bool f,.int .i64 o,v]:=h.nod.keep (hg.far h.nod.lt fun q=>(h.far _ q).2.2 rfl)
 have hown:OwnY w5 w.heap.size (.slice (some ⟨g,0,none⟩) (acc.length+1) cap) (acc++[(c,x,t)]):=by
  unfold OwnY
  have e:wyV (acc++[(c,x,t)])=wyV acc++[.int .i64 (c.toNat:Nat),.int .i64 x,.int .i64 (t:Nat)]:=by unfold wyV;rw [List.flatMap_append];rfl
  rw [e,List.length_append]
  exact hw
 refine ⟨⟨hn.cell 2,hn.frozen 2⟩,(h.res.keep (hg.far h.res.lt fun q=>(h.far _ q).2.1 rfl)).keep (heap_other _ _ _ _ _ (by omega)),hn.set 2 _,ownsRow_keep hown fun q hq=>heap_other _ _ _ _ _ fun e=>?_,(RowT.keep h.cur (hg.far (RowT.lt h.cur) fun q=>by have:=(h.far _ q).1;omega)).keep (heap_other _ _ _ _ _ (by omega)),?_,hlt⟩
 ·subst e
  obtain ⟨_,_,_,_,h3⟩:=own_kind hown _ hq
  have:=kind_inj h3 hn
  revert this
  decide
 ·exact ⟨hg.kept.os.trans h.kept.os,hg.kept.tape.trans h.kept.tape,hg.kept.output.trans h.kept.output,by have h1:=hg.kept.size;have h2:=h.kept.size;simp only [World.setCell];simpa using Nat.le_trans h2 h1,fun q hq hf=>by
   rw [heap_other _ _ _ _ _ (by omega)]
   exact (hg.far (by have:=h.kept.size;omega) (fun e=>by have:=(h.far q e).1;omega)).trans (h.kept.block q hq hf)⟩
theorem errsOf {w wx:World} {b:Nat} (hr:RowT 115 wx w.heap.size #[.bool false,.int .i64 0,.slice none 0 0]) (hk:KeptF (fun k=>k=b) w wx):wx.cell? ⟨w.heap.size,0,none⟩=some (.bool false)∧wx.frozen? ⟨w.heap.size,0,none⟩=false∧(wx.setCell ⟨w.heap.size,0,none⟩ (.bool false)).cell? ⟨w.heap.size,1,none⟩=some (.int .i64 0)∧(wx.setCell ⟨w.heap.size,0,none⟩ (.bool false)).frozen? ⟨w.heap.size,1,none⟩=false ∧
  ((wx.setCell ⟨w.heap.size,0,none⟩ (.bool false)).setCell ⟨w.heap.size,1,none⟩ (.int .i64 0)).cell? ⟨w.heap.size,2,none⟩=some (.slice none 0 0)∧((wx.setCell ⟨w.heap.size,0,none⟩ (.bool false)).setCell ⟨w.heap.size,1,none⟩ (.int .i64 0)).frozen? ⟨w.heap.size,2,none⟩=false ∧
  Hid (RowT 115 (((wx.setCell ⟨w.heap.size,0,none⟩ (.bool false)).setCell ⟨w.heap.size,1,none⟩ (.int .i64 0)).setCell ⟨w.heap.size,2,none⟩ (.slice none 0 0)) w.heap.size #[.bool false,.int .i64 0,.slice none 0 0]∧KeptF (fun k=>k=b) w (((wx.setCell ⟨w.heap.size,0,none⟩ (.bool false)).setCell ⟨w.heap.size,1,none⟩ (.int .i64 0)).setCell ⟨w.heap.size,2,none⟩ (.slice none 0 0))):=by
 have q1:=hr.set 0 (.bool false)
 have q2:=q1.set 1 (.int .i64 0)
 have q3:=q2.set 2 (.slice none 0 0)
 exact ⟨hr.cell 0,hr.frozen 0,q1.cell 1,q1.frozen 1,q2.cell 2,q2.frozen 2,q3,((hk.newSet _ (Nat.le_refl _) _).newSet _ (Nat.le_refl _) _).newSet _ (Nat.le_refl _) _⟩
theorem NodB.errs (h:NodB w wx b s f o v acc):wx.cell? ⟨w.heap.size,0,none⟩=some (.bool false)∧wx.frozen? ⟨w.heap.size,0,none⟩=false∧(wx.setCell ⟨w.heap.size,0,none⟩ (.bool false)).cell? ⟨w.heap.size,1,none⟩=some (.int .i64 0)∧(wx.setCell ⟨w.heap.size,0,none⟩ (.bool false)).frozen? ⟨w.heap.size,1,none⟩=false ∧
  ((wx.setCell ⟨w.heap.size,0,none⟩ (.bool false)).setCell ⟨w.heap.size,1,none⟩ (.int .i64 0)).cell? ⟨w.heap.size,2,none⟩=some (.slice none 0 0)∧((wx.setCell ⟨w.heap.size,0,none⟩ (.bool false)).setCell ⟨w.heap.size,1,none⟩ (.int .i64 0)).frozen? ⟨w.heap.size,2,none⟩=false ∧
  Hid (RowT 115 (((wx.setCell ⟨w.heap.size,0,none⟩ (.bool false)).setCell ⟨w.heap.size,1,none⟩ (.int .i64 0)).setCell ⟨w.heap.size,2,none⟩ (.slice none 0 0)) w.heap.size #[.bool false,.int .i64 0,.slice none 0 0]∧KeptF (fun k=>k=b) w (((wx.setCell ⟨w.heap.size,0,none⟩ (.bool false)).setCell ⟨w.heap.size,1,none⟩ (.int .i64 0)).setCell ⟨w.heap.size,2,none⟩ (.slice none 0 0))):=errsOf h.res h.kept
end
theorem loadN' (w:World) (b:Nat) (c0 c1 c2:Value) (h:RowT 115 w b #[c0,c1,c2]):(loadVar 115 ⟨b,0,none⟩).run Tryz.prog w=.ok (.agg #[c0,c1,c2]) w:=loadN w b c0 c1 c2 (h.cell 0) (h.cell 1) (h.cell 2)
def NodPost (w:World) (b:Nat) (f:Bool) (o:Int) (R:Int × List (UInt8 × Int × Nat) × List UInt8) (e:Ending) (w':World):Prop:=
 KeptF (fun k=>k=b) w w'∧((R.1≠0∧e=.returned (.tuple #[.agg #[.bool false,.int .i64 0,.slice none 0 0],.int .i64 R.1])) ∨
  (R.1=0∧∃v,e=.returned (.tuple #[.agg #[.bool f,.int .i64 o,v],.int .i64 0])∧OwnY w' w.heap.size v R.2.1∧CurT w' b R.2.2))
theorem readWay_bad (s:List UInt8) (b:Nat) (w:World) (hc:CurT w b s) (hs:s.length≤140737488355328) (he:rdWay s≠0):
  Calls Tryz.prog 92 #[.pointer (some ⟨b,0,none⟩)] w fun e w'=>e=.returned (.tuple #[.agg #[.int .i64 0,.int .i64 0,.int .i64 0],.int .i64 (rdWay s)])∧KeptF (fun k=>k=b) w w':=
 (readWay_any s b w hc hs).mono fun e w' h=>by
  rcases h with ⟨h1,⟨_,h2⟩ | ⟨h2,_⟩⟩
  ·exact ⟨h2,h1⟩
  ·exact absurd h2 he
theorem readWay_ok (s:List UInt8) (b:Nat) (w:World) (hc:CurT w b s) (hs:s.length≤140737488355328) (he:rdWay s=0):
  Calls Tryz.prog 92 #[.pointer (some ⟨b,0,none⟩)] w fun e w'=>e=.returned (.tuple #[.agg #[.int .i64 (Fs.cN s),.int .i64 (Fs.cN (Fs.past s)),.int .i64 (Fs.cN (Fs.past (Fs.past s)))],.int .i64 0])∧KeptF (fun k=>k=b) w w'∧CurT w' b (Fs.past (Fs.past (Fs.past s))):=
 (readWay_any s b w hc hs).mono fun e w' h=>by
  rcases h with ⟨h1,⟨h2,_⟩ | ⟨_,h2,h3⟩⟩
  ·exact absurd he h2
  ·exact ⟨h2,h1,h3⟩
theorem cN_bd (s:List UInt8):0≤Fs.cN s∧Fs.cN s≤9223372036854775807:=(rdCount_bd s _ _ _ rfl).1
theorem readNode_head (s:List UInt8) (b n:Nat) (w:World) (hc:CurT w b s) (hs:s.length≤140737488355328) (he:Fs.cE s≠0):
  Calls Tryz.prog 69 #[.pointer (some ⟨b,0,none⟩),.int .i64 (n:Int)] w (NodPost w b false 0 (Fs.cE s,[],[])):=by
 have hm:=nodB_made hc
 have HC:=lh (count_c s b _ hm.cur hs)
 obtain ⟨g0,g1,g2,g3,g4,g5,HQ⟩:=(hm.count (Fs.past s)).errs
 have he2:¬Fs.cE s=0:=he
 clear hm hc hs
 generalize Fs.cE s=E at *
 generalize Fs.cN s=N0 at *
 go_enter Tryz.func69,Tryz.ntmps69
 go_wp2_with (go_at_call 68;refine HC.out.mono ?_;rintro e1 w1 ⟨rfl,rfl⟩)
 refine bodyPost_ret (results_cell_tmp rfl _ _ ⟨w.heap.size,0,none⟩ (.agg #[.bool false,.int .i64 0,.slice none 0 0]) rfl (loadN' _ _ _ _ _ HQ.out.1)) rfl ?_
 exact ⟨HQ.out.2,.inl ⟨he,rfl⟩⟩
theorem readNode_big (s:List UInt8) (b n:Nat) (w:World) (hc:CurT w b s) (hs:s.length≤140737488355328) (he:Fs.cE s=0) (hbig:513<Fs.cN s):
  Calls Tryz.prog 69 #[.pointer (some ⟨b,0,none⟩),.int .i64 (n:Int)] w (NodPost w b false 0 (3,[],[])):=by
 have hm:=nodB_made hc
 have HC:=count_c s b _ hm.cur hs
 obtain ⟨g0,g1,g2,g3,g4,g5,HQ⟩:=(hm.count (Fs.past s)).errs
 have hb:=cN_bd s
 rw [he] at HC
 obtain ⟨N0,hN⟩:=Int.eq_ofNat_of_zero_le hb.1
 rw [hN] at HC hbig hb
 have HC:=lh HC
 have h5:(256:Int)<((N0/2:Nat):Int):=by omega
 clear hm hc hs hN he
 go_enter Tryz.func69,Tryz.ntmps69
 go_wp2_with (go_at_call 68;refine HC.out.mono ?_;rintro e1 w1 ⟨rfl,rfl⟩)
 refine bodyPost_ret (results_cell_tmp rfl _ _ ⟨w.heap.size,0,none⟩ (.agg #[.bool false,.int .i64 0,.slice none 0 0]) rfl (loadN' _ _ _ _ _ HQ.out.1)) rfl ?_
 exact ⟨HQ.out.2,.inl ⟨by decide,rfl⟩⟩
end F12
namespace F12
open Go.RowKit Go.Maps
theorem rdW_bad {n:Nat} {s:List UInt8} (h:rdWay s≠0):(Fs.rdW n s).1=rdWay s:=by
 unfold rdWay at h ⊢
 unfold Fs.rdW
 by_cases h1:Fs.cE s≠0
 ·rw [if_pos h1,if_pos h1]
 ·rw [if_neg h1] at h
  rw [if_neg h1,if_neg h1]
  by_cases h2:Fs.cE (Fs.past s)≠0
  ·rw [if_pos h2,if_pos h2]
  ·rw [if_neg h2] at h
   rw [if_neg h2,if_neg h2,if_pos h]
theorem rdW_ok {n:Nat} {s:List UInt8} (h:rdWay s=0):Fs.rdW n s=if 255<Fs.cN s∨(n:Int)≤Fs.cN (Fs.past (Fs.past s)) then (3,(0,0,0),[]) else (0,(UInt8.ofNat (Fs.cN s).toNat,Fs.cN (Fs.past s),(Fs.cN (Fs.past (Fs.past s))).toNat),Fs.past (Fs.past (Fs.past s))):=by
 unfold rdWay at h
 unfold Fs.rdW
 by_cases h1:Fs.cE s≠0
 ·rw [if_pos h1] at h
  exact absurd h h1
 ·rw [if_neg h1] at h
  rw [if_neg h1]
  by_cases h2:Fs.cE (Fs.past s)≠0
  ·rw [if_pos h2] at h
   exact absurd h h2
  ·rw [if_neg h2] at h
   rw [if_neg h2,if_neg (fun q=>q h)]
theorem rdWs_bad {k n:Nat} {s:List UInt8} {acc:List (UInt8 × Int × Nat)} (h:(Fs.rdW n s).1≠0):Fs.rdWs (k+1) n s acc=((Fs.rdW n s).1,[],[]):=by
 show (if (Fs.rdW n s).1≠0 then _ else _)=_
 rw [if_pos h]
theorem rdWs_ok {k n:Nat} {s:List UInt8} {acc:List (UInt8 × Int × Nat)} (h:(Fs.rdW n s).1=0):Fs.rdWs (k+1) n s acc=Fs.rdWs k n (Fs.rdW n s).2.2 (acc++[(Fs.rdW n s).2.1]):=by
 show (if (Fs.rdW n s).1≠0 then _ else _)=_
 rw [if_neg (fun q=>q h)]
theorem resOf {w wx:World} {b:Nat} {x0 x1 x2:Value} (hr:RowT 115 wx w.heap.size #[.bool false,.int .i64 0,.slice none 0 0]) (hk:KeptF (fun k=>k=b) w wx):wx.cell? ⟨w.heap.size,0,none⟩=some (.bool false)∧wx.frozen? ⟨w.heap.size,0,none⟩=false∧(wx.setCell ⟨w.heap.size,0,none⟩ x0).cell? ⟨w.heap.size,1,none⟩=some (.int .i64 0)∧(wx.setCell ⟨w.heap.size,0,none⟩ x0).frozen? ⟨w.heap.size,1,none⟩=false ∧
  ((wx.setCell ⟨w.heap.size,0,none⟩ x0).setCell ⟨w.heap.size,1,none⟩ x1).cell? ⟨w.heap.size,2,none⟩=some (.slice none 0 0)∧((wx.setCell ⟨w.heap.size,0,none⟩ x0).setCell ⟨w.heap.size,1,none⟩ x1).frozen? ⟨w.heap.size,2,none⟩=false ∧
  Hid (RowT 115 (((wx.setCell ⟨w.heap.size,0,none⟩ x0).setCell ⟨w.heap.size,1,none⟩ x1).setCell ⟨w.heap.size,2,none⟩ x2) w.heap.size #[x0,x1,x2]∧KeptF (fun k=>k=b) w (((wx.setCell ⟨w.heap.size,0,none⟩ x0).setCell ⟨w.heap.size,1,none⟩ x1).setCell ⟨w.heap.size,2,none⟩ x2)):=by
 have q1:=hr.set 0 x0
 have q2:=q1.set 1 x1
 have q3:=q2.set 2 x2
 exact ⟨hr.cell 0,hr.frozen 0,q1.cell 1,q1.frozen 1,q2.cell 2,q2.frozen 2,q3,((hk.newSet _ (Nat.le_refl _) _).newSet _ (Nat.le_refl _) _).newSet _ (Nat.le_refl _) _⟩
theorem readNode_even (s:List UInt8) (b n:Nat) (w:World) (hc:CurT w b s) (hs:s.length≤140737488355328) (he:Fs.cE s=0) (hsm:¬513<Fs.cN s) (hpar:Fs.cN s%2=0):
  Calls Tryz.prog 69 #[.pointer (some ⟨b,0,none⟩),.int .i64 (n:Int)] w (NodPost w b false 0 (Fs.rdWs ((Fs.cN s).toNat/2) n (Fs.past s) [])):=by
 obtain ⟨iW,hiW,hyW0,hyW1,hyW2⟩:=info_parts Tryz.infoW
 have hm:=nodB_made hc
 have HC:=count_c s b _ hm.cur hs
 have hm1:=hm.count (Fs.past s)
 have hb:=cN_bd s
 rw [he] at HC
 obtain ⟨N0,hN⟩:=Int.eq_ofNat_of_zero_le hb.1
 rw [hN] at HC hsm hb hpar ⊢
 rw [Int.toNat_natCast]
 have HC:=lh HC
 have h5:¬(256:Int)<((N0/2:Nat):Int):=by omega
 obtain ⟨q,hq⟩:∃q,q=N0/2:=⟨_,rfl⟩
 rw [←hq] at h5 ⊢
 have hq2:(N0:Int).tdiv 2=(q:Int):=by rw [hq];rfl
 have hq3:(N0:Int).tmod 2=0:=by
  have:(N0:Int).tmod 2=((N0%2:Nat):Int):=rfl
  omega
 have hq4:q≤256:=by omega
 have hwq:IntKind.i64.wrap (q:Int)=(q:Int):=IntWalk.i64_in _ (by omega)
 have HM:=lh hm1
 have HS:Hid ((Fs.past s).length≤s.length):=Fs.past_le _
 have HSL:=lh hs
 have HQ4:=lh hq4
 clear hc hm hm1 hs he hN hq hpar hb hsm hq4
 go_enter Tryz.func69,Tryz.ntmps69
 go_wp2_with (go_at_call 68;go_loud ((refine HC.out.mono ?_;rintro e1 w1 ⟨rfl,rfl⟩)))
 go_loopg [40] q (fun gg iv wx=>∃k:Nat,k≤q∧gg=q-k∧iv=.int .i64 (k:Int)∧Hid (∃v acc s',NodB w wx b s' false 0 v acc∧acc.length=k∧s'.length≤s.length∧Fs.rdWs (q-k) n s' acc=Fs.rdWs q n (Fs.past s) []))
 case atStart=>exact ⟨0,by omega,rfl,rfl,_,_,_,HM.out,rfl,HS.out,rfl⟩
 case round=>
  clear HM HS
  obtain ⟨k,hk,rfl,rfl,hBo⟩:=hrel
  obtain ⟨v,acc,s',hB,hacc,hs',hrd⟩:=hBo.out
  clear hBo
  by_cases hkq:k<q
  ·have i1:(k:Int)<(q:Int):=by omega
   have hs2:s'.length≤140737488355328:=Nat.le_trans hs' HSL.out
   have hlw:=hB.lt
   rw [show q-k=(q-(k+1))+1 by omega] at hrd
   by_cases hw:rdWay s'=0
   ·have HW:=lh (readWay_ok s' b wr hB.cur hs2 hw)
    have hf:=rdW_ok (n:=n) hw
    have hcb:=cN_bd s'
    have htb:=cN_bd (Fs.past (Fs.past s'))
    obtain ⟨xo,hxo⟩:∃x,x=Fs.cN (Fs.past s'):=⟨_,rfl⟩
    rw [←hxo] at HW hf
    obtain ⟨C,hC⟩:=Int.eq_ofNat_of_zero_le hcb.1
    obtain ⟨D,hD⟩:=Int.eq_ofNat_of_zero_le htb.1
    rw [hC] at HW hf
    rw [hD] at HW hf
    have HB:=lh hB
    have HP3:Hid ((Fs.past (Fs.past (Fs.past s'))).length≤s.length):=Nat.le_trans (Nat.le_trans (Fs.past_le _) (Nat.le_trans (Fs.past_le _) (Fs.past_le _))) hs'
    by_cases hbad:255<C∨n≤D
    ·have HR:Hid (Fs.rdWs q n (Fs.past s) []=(3,[],[])):=by
      rw [if_pos (by omega)] at hf
      show _=_
      rw [←hrd,rdWs_bad (by rw [hf];decide),hf]
     have j1:256≤(C:Int)∨(n:Int)≤(D:Int):=by omega
     have hcall:∀w1,KeptF (fun k=>k=b) wr w1→CurT w1 b (Fs.past (Fs.past (Fs.past s')))→_:=fun w1 hk1 hc1=>((hB.go hk1 hc1).below ((Below.refl _ _).alloc (Nat.le_refl _) (.cells #[.int .i64 (C:Int),.int .i64 xo,.int .i64 (D:Int)] 118))).errs
     have HCALL:=lh hcall
     clear hB hs2 hs' hw hf hcb htb hC hD hxo hrd hacc hbad hcall
     rcases Decidable.em (256≤(C:Int)) with j2 | j2
     ·go_wp2_with (go_at_call 92;go_loud ((refine HW.out.mono ?_;rintro e1 w1 ⟨rfl,hk1,hc1⟩;obtain ⟨g0,g1,g2,g3,g4,g5,HQ⟩:=HCALL.out w1 hk1 hc1;clear hk1 hc1)))
      refine bodyPost_ret (results_cell_tmp rfl _ _ ⟨w.heap.size,0,none⟩ (.agg #[.bool false,.int .i64 0,.slice none 0 0]) rfl (loadN' _ _ _ _ _ HQ.out.1)) rfl ?_
      exact ⟨HQ.out.2,.inl ⟨by rw [HR.out];decide,by rw [HR.out];rfl⟩⟩
     ·have j3:(n:Int)≤(D:Int):=by omega
      go_wp2_with (go_at_call 92;go_loud ((refine HW.out.mono ?_;rintro e1 w1 ⟨rfl,hk1,hc1⟩;obtain ⟨g0,g1,g2,g3,g4,g5,HQ⟩:=HCALL.out w1 hk1 hc1;clear hk1 hc1)))
      refine bodyPost_ret (results_cell_tmp rfl _ _ ⟨w.heap.size,0,none⟩ (.agg #[.bool false,.int .i64 0,.slice none 0 0]) rfl (loadN' _ _ _ _ _ HQ.out.1)) rfl ?_
      exact ⟨HQ.out.2,.inl ⟨by rw [HR.out];decide,by rw [HR.out];rfl⟩⟩
    ·have hCC:(UInt8.ofNat C).toNat=C:=by simp only [UInt8.toNat_ofNat'];omega
     have HR:Hid (Fs.rdWs (q-(k+1)) n (Fs.past (Fs.past (Fs.past s'))) (acc++[(UInt8.ofNat C,xo,D)])=Fs.rdWs q n (Fs.past s) []):=by
      rw [if_neg (by omega)] at hf
      show _=_
      rw [←hrd,rdWs_ok (by rw [hf]),hf]
      simp only [Int.toNat_natCast]
     have j2:¬256≤(C:Int):=by omega
     have j3:¬(n:Int)≤(D:Int):=by omega
     obtain ⟨av,cv,hv,_,_⟩:=own_form hB.ways
     subst hv
     have hcall:∀w1,KeptF (fun k=>k=b) wr w1→CurT w1 b (Fs.past (Fs.past (Fs.past s')))→(w1.alloc (.cells #[.int .i64 (C:Int),.int .i64 xo,.int .i64 (D:Int)] 118)).cell? ⟨w.heap.size+1,2,none⟩=some (.slice av acc.length cv)∧Hid (NodB w (w1.alloc (.cells #[.int .i64 (C:Int),.int .i64 xo,.int .i64 (D:Int)] 118)) b (Fs.past (Fs.past (Fs.past s'))) false 0 (.slice av acc.length cv) acc):=fun w1 hk1 hc1=>by
      have h1:=(hB.go hk1 hc1).below ((Below.refl _ _).alloc (Nat.le_refl _) (.cells #[.int .i64 (C:Int),.int .i64 xo,.int .i64 (D:Int)] 118))
      exact ⟨h1.nod.cell 2,h1⟩
     have HCALL:=lh hcall
     have HPU:Hid (∀W2 w5 g5 cap5,NodB w W2 b (Fs.past (Fs.past (Fs.past s'))) false 0 (.slice av acc.length cv) acc→w5.ownsRow w.heap.size 118 3 (.slice (some ⟨g5,0,none⟩) (acc.length+1) cap5) (acc.length+1) (wyV acc++[.int .i64 (C:Int),.int .i64 xo,.int .i64 (D:Int)])→Grew W2 w5 (.slice av acc.length cv) (.slice (some ⟨g5,0,none⟩) (acc.length+1) cap5) →
       (w5.cell? ⟨w.heap.size+1,2,none⟩=some (.slice av acc.length cv)∧w5.frozen? ⟨w.heap.size+1,2,none⟩=false)∧NodB w (w5.setCell ⟨w.heap.size+1,2,none⟩ (.slice (some ⟨g5,0,none⟩) (acc.length+1) cap5)) b (Fs.past (Fs.past (Fs.past s'))) false 0 (.slice (some ⟨g5,0,none⟩) (acc.length+1) cap5) (acc++[(UInt8.ofNat C,xo,D)])):=fun W2 w5 g5 cap5 h1 h2 h3=>h1.push (by rw [hCC];exact h2) h3
     have hal:acc.length≤256:=by have:=HQ4.out;omega
     have HAC:=lh hacc
     clear hB hs2 hs' hw hf hcb htb hC hD hxo hrd hbad hcall hCC hacc
     go_wp2_with (first | (go_at_call 92;go_loud ((refine HW.out.mono ?_;rintro e1 w1 ⟨rfl,hk1,hc1⟩;obtain ⟨n2,HNB⟩:=HCALL.out w1 hk1 hc1;have hsz2:w.heap.size≤(w1.alloc (.cells #[.int .i64 (C:Int),.int .i64 xo,.int .i64 (D:Int)] 118)).heap.size:=HNB.out.kept.size;clear hk1 hc1))) | (at_builtin;go_loud ((refine wpList_pushR rfl _ _ 113 118 rfl iW _ 3 24 Tryz.underlying113 hiW hyW0 hyW1 hyW2 rfl (by decide) w.heap.size hsz2 (.slice av acc.length cv) acc.length (wyV acc) rfl HNB.out.ways [.int .i64 (C:Int),.int .i64 xo,.int .i64 (D:Int)] rfl (one_of rfl) (by rw [World.size_alloc];rfl) (by omega) (by omega) ?_;intro g5 cap5 w5 hown5 hgr5;obtain ⟨⟨m5,m6⟩,hq5⟩:=HPU.out _ w5 g5 cap5 HNB.out hown5 hgr5;have HQ5:=lh hq5;clear hown5 hgr5 hq5))))
     go_roundg (q-(k+1))
     case rel=>exact ⟨k+1,by omega,rfl,by go_num,_,_,_,HQ5.out,by rw [List.length_append,HAC.out];rfl,HP3.out,HR.out⟩
     case measure=>omega
   ·have HW:=lh (readWay_bad s' b wr hB.cur hs2 hw)
    have HR:Hid (Fs.rdWs q n (Fs.past s) []=(rdWay s',[],[])):=by
     have hf:=rdW_bad (n:=n) hw
     show _=_
     rw [←hrd,rdWs_bad (by rw [hf];exact hw),hf]
    have HB:=lh hB
    have hE2:¬rdWay s'=0:=hw
    have hcall:∀w1,KeptF (fun k=>k=b) wr w1→_:=fun w1 hk1=>errsOf (w:=w) (wx:=w1.alloc (.cells #[.int .i64 0,.int .i64 0,.int .i64 0] 118)) (b:=b) ((hB.res.keep (hk1.block _ hB.res.lt (by omega))).keep (Go.Deep.blk_alloc_lt _ _ _ (by have:=hk1.size;have:=hB.res.lt;omega))) ((hB.kept.trans hk1).trans (KeptF.of_below ((Below.refl _ _).alloc (Nat.le_refl _) _)))
    have HCALL:=lh hcall
    generalize rdWay s'=E at *
    clear hB hs2 hs' hrd hacc hcall
    go_wp2_with (go_at_call 92;go_loud ((refine HW.out.mono ?_;rintro e1 w1 ⟨rfl,hk1⟩;obtain ⟨g0,g1,g2,g3,g4,g5,HQ⟩:=HCALL.out w1 hk1;clear hk1)))
    refine bodyPost_ret (results_cell_tmp rfl _ _ ⟨w.heap.size,0,none⟩ (.agg #[.bool false,.int .i64 0,.slice none 0 0]) rfl (loadN' _ _ _ _ _ HQ.out.1)) rfl ?_
    exact ⟨HQ.out.2,.inl ⟨by rw [HR.out];exact hE2,by rw [HR.out];rfl⟩⟩
  ·obtain rfl:k=q:=by omega
   have i1:¬(k:Int)<(k:Int):=by omega
   obtain ⟨av,cv,hv,_,_⟩:=own_form hB.ways
   subst hv
   have c0:=hB.nod.cell 0
   have c1:=hB.nod.cell 1
   have c2:=hB.nod.cell 2
   obtain ⟨g0,g1,g2,g3,g4,g5,HQ⟩:=resOf (x0:=.bool false) (x1:=.int .i64 0) (x2:=.slice av acc.length cv) hB.res hB.kept
   rw [Nat.sub_self] at hrd
   have HR:Hid (Fs.rdWs k n (Fs.past s) []=(0,acc,s')):=hrd.symm
   have HOW:Hid (OwnY (((wr.setCell ⟨w.heap.size,0,none⟩ (.bool false)).setCell ⟨w.heap.size,1,none⟩ (.int .i64 0)).setCell ⟨w.heap.size,2,none⟩ (.slice av acc.length cv)) w.heap.size (.slice av acc.length cv) acc):=by
    have h1:=fun q hq=>(hB.far q hq).2.1
    exact ownsRow_keep (ownsRow_keep (ownsRow_keep hB.ways fun q hq=>heap_other _ _ _ _ _ (h1 q hq)) fun q hq=>heap_other _ _ _ _ _ (h1 q hq)) fun q hq=>heap_other _ _ _ _ _ (h1 q hq)
   have HCU:Hid (CurT (((wr.setCell ⟨w.heap.size,0,none⟩ (.bool false)).setCell ⟨w.heap.size,1,none⟩ (.int .i64 0)).setCell ⟨w.heap.size,2,none⟩ (.slice av acc.length cv)) b s'):=by
    have hne:b≠w.heap.size:=by have:=hB.lt;omega
    exact RowT.keep (RowT.keep (RowT.keep hB.cur (heap_other _ _ _ _ _ hne)) (heap_other _ _ _ _ _ hne)) (heap_other _ _ _ _ _ hne)
   clear hB hrd hacc hs' hkq
   go_wp2_with fail
   refine bodyPost_ret (results_cell_tmp rfl _ _ ⟨w.heap.size,0,none⟩ (.agg #[.bool false,.int .i64 0,.slice av acc.length cv]) rfl (loadN' _ _ _ _ _ HQ.out.1)) rfl ?_
   rw [HR.out]
   exact ⟨HQ.out.2,.inr ⟨rfl,_,rfl,HOW.out,HCU.out⟩⟩
theorem readNode_odd (s:List UInt8) (b n:Nat) (w:World) (hc:CurT w b s) (hs:s.length≤140737488355328) (he:Fs.cE s=0) (hsm:¬513<Fs.cN s) (hpar:Fs.cN s%2=1) (he1:Fs.cE (Fs.past s)=0):
  Calls Tryz.prog 69 #[.pointer (some ⟨b,0,none⟩),.int .i64 (n:Int)] w (NodPost w b true (Fs.cN (Fs.past s)) (Fs.rdWs ((Fs.cN s).toNat/2) n (Fs.past (Fs.past s)) [])):=by
 obtain ⟨iW,hiW,hyW0,hyW1,hyW2⟩:=info_parts Tryz.infoW
 have hm:=nodB_made hc
 have HC:=count_c s b _ hm.cur hs
 have hm1:=hm.count (Fs.past s)
 have hb:=cN_bd s
 rw [he] at HC
 obtain ⟨N0,hN⟩:=Int.eq_ofNat_of_zero_le hb.1
 rw [hN] at HC hsm hb hpar ⊢
 rw [Int.toNat_natCast]
 have HC:=lh HC
 have h5:¬(256:Int)<((N0/2:Nat):Int):=by omega
 obtain ⟨q,hq⟩:∃q,q=N0/2:=⟨_,rfl⟩
 rw [←hq] at h5 ⊢
 have hq2:(N0:Int).tdiv 2=(q:Int):=by rw [hq];rfl
 have hq3:(N0:Int).tmod 2=1:=by
  have:(N0:Int).tmod 2=((N0%2:Nat):Int):=rfl
  omega
 have hq4:q≤256:=by omega
 have hwq:IntKind.i64.wrap (q:Int)=(q:Int):=IntWalk.i64_in _ (by omega)
 have hm2:=hm1.put 0 (.bool true) (f':=true) (o':=0) rfl
 have HC2:=count_c (Fs.past s) b _ hm2.cur (Nat.le_trans (Fs.past_le s) hs)
 rw [he1] at HC2
 have HC2:=lh HC2
 have e0:=hm1.nod.cell 0
 have e1:=hm1.nod.frozen 0
 have hm3:=hm2.count (Fs.past (Fs.past s))
 have e2:=hm3.nod.cell 1
 have e3:=hm3.nod.frozen 1
 have hm4:=hm3.put 1 (.int .i64 (Fs.cN (Fs.past s))) (f':=true) (o':=Fs.cN (Fs.past s)) rfl
 have HM:=lh hm4
 generalize Fs.cN (Fs.past s)=x0 at *
 have HS:Hid ((Fs.past (Fs.past s)).length≤s.length):=Nat.le_trans (Fs.past_le _) (Fs.past_le _)
 have HSL:=lh hs
 have HQ4:=lh hq4
 clear hc hm hm1 hm2 hm3 hm4 he1 hs he hN hq hpar hb hsm hq4
 go_enter Tryz.func69,Tryz.ntmps69
 go_wp2_with (go_at_call 68;first | (refine HC.out.mono ?_;rintro e1 w1 ⟨rfl,rfl⟩) | (refine HC2.out.mono ?_;rintro e1 w1 ⟨rfl,rfl⟩))
 go_loopg [40] q (fun gg iv wx=>∃k:Nat,k≤q∧gg=q-k∧iv=.int .i64 (k:Int)∧Hid (∃v acc s',NodB w wx b s' true x0 v acc∧acc.length=k∧s'.length≤s.length∧Fs.rdWs (q-k) n s' acc=Fs.rdWs q n (Fs.past (Fs.past s)) []))
 case atStart=>exact ⟨0,by omega,rfl,rfl,_,_,_,HM.out,rfl,HS.out,rfl⟩
 case round=>
  clear HM HS
  obtain ⟨k,hk,rfl,rfl,hBo⟩:=hrel
  obtain ⟨v,acc,s',hB,hacc,hs',hrd⟩:=hBo.out
  clear hBo
  by_cases hkq:k<q
  ·have i1:(k:Int)<(q:Int):=by omega
   have hs2:s'.length≤140737488355328:=Nat.le_trans hs' HSL.out
   have hlw:=hB.lt
   rw [show q-k=(q-(k+1))+1 by omega] at hrd
   by_cases hw:rdWay s'=0
   ·have HW:=lh (readWay_ok s' b wr hB.cur hs2 hw)
    have hf:=rdW_ok (n:=n) hw
    have hcb:=cN_bd s'
    have htb:=cN_bd (Fs.past (Fs.past s'))
    obtain ⟨xo,hxo⟩:∃x,x=Fs.cN (Fs.past s'):=⟨_,rfl⟩
    rw [←hxo] at HW hf
    obtain ⟨C,hC⟩:=Int.eq_ofNat_of_zero_le hcb.1
    obtain ⟨D,hD⟩:=Int.eq_ofNat_of_zero_le htb.1
    rw [hC] at HW hf
    rw [hD] at HW hf
    have HB:=lh hB
    have HP3:Hid ((Fs.past (Fs.past (Fs.past s'))).length≤s.length):=Nat.le_trans (Nat.le_trans (Fs.past_le _) (Nat.le_trans (Fs.past_le _) (Fs.past_le _))) hs'
    by_cases hbad:255<C∨n≤D
    ·have HR:Hid (Fs.rdWs q n (Fs.past (Fs.past s)) []=(3,[],[])):=by
      rw [if_pos (by omega)] at hf
      show _=_
      rw [←hrd,rdWs_bad (by rw [hf];decide),hf]
     have j1:256≤(C:Int)∨(n:Int)≤(D:Int):=by omega
     have hcall:∀w1,KeptF (fun k=>k=b) wr w1→CurT w1 b (Fs.past (Fs.past (Fs.past s')))→_:=fun w1 hk1 hc1=>((hB.go hk1 hc1).below ((Below.refl _ _).alloc (Nat.le_refl _) (.cells #[.int .i64 (C:Int),.int .i64 xo,.int .i64 (D:Int)] 118))).errs
     have HCALL:=lh hcall
     clear hB hs2 hs' hw hf hcb htb hC hD hxo hrd hacc hbad hcall
     rcases Decidable.em (256≤(C:Int)) with j2 | j2
     ·go_wp2_with (go_at_call 92;go_loud ((refine HW.out.mono ?_;rintro e1 w1 ⟨rfl,hk1,hc1⟩;obtain ⟨g0,g1,g2,g3,g4,g5,HQ⟩:=HCALL.out w1 hk1 hc1;clear hk1 hc1)))
      refine bodyPost_ret (results_cell_tmp rfl _ _ ⟨w.heap.size,0,none⟩ (.agg #[.bool false,.int .i64 0,.slice none 0 0]) rfl (loadN' _ _ _ _ _ HQ.out.1)) rfl ?_
      exact ⟨HQ.out.2,.inl ⟨by rw [HR.out];decide,by rw [HR.out];rfl⟩⟩
     ·have j3:(n:Int)≤(D:Int):=by omega
      go_wp2_with (go_at_call 92;go_loud ((refine HW.out.mono ?_;rintro e1 w1 ⟨rfl,hk1,hc1⟩;obtain ⟨g0,g1,g2,g3,g4,g5,HQ⟩:=HCALL.out w1 hk1 hc1;clear hk1 hc1)))
      refine bodyPost_ret (results_cell_tmp rfl _ _ ⟨w.heap.size,0,none⟩ (.agg #[.bool false,.int .i64 0,.slice none 0 0]) rfl (loadN' _ _ _ _ _ HQ.out.1)) rfl ?_
      exact ⟨HQ.out.2,.inl ⟨by rw [HR.out];decide,by rw [HR.out];rfl⟩⟩
    ·have hCC:(UInt8.ofNat C).toNat=C:=by simp only [UInt8.toNat_ofNat'];omega
     have HR:Hid (Fs.rdWs (q-(k+1)) n (Fs.past (Fs.past (Fs.past s'))) (acc++[(UInt8.ofNat C,xo,D)])=Fs.rdWs q n (Fs.past (Fs.past s)) []):=by
      rw [if_neg (by omega)] at hf
      show _=_
      rw [←hrd,rdWs_ok (by rw [hf]),hf]
      simp only [Int.toNat_natCast]
     have j2:¬256≤(C:Int):=by omega
     have j3:¬(n:Int)≤(D:Int):=by omega
     obtain ⟨av,cv,hv,_,_⟩:=own_form hB.ways
     subst hv
     have hcall:∀w1,KeptF (fun k=>k=b) wr w1→CurT w1 b (Fs.past (Fs.past (Fs.past s')))→(w1.alloc (.cells #[.int .i64 (C:Int),.int .i64 xo,.int .i64 (D:Int)] 118)).cell? ⟨w.heap.size+1,2,none⟩=some (.slice av acc.length cv)∧Hid (NodB w (w1.alloc (.cells #[.int .i64 (C:Int),.int .i64 xo,.int .i64 (D:Int)] 118)) b (Fs.past (Fs.past (Fs.past s'))) true x0 (.slice av acc.length cv) acc):=fun w1 hk1 hc1=>by
      have h1:=(hB.go hk1 hc1).below ((Below.refl _ _).alloc (Nat.le_refl _) (.cells #[.int .i64 (C:Int),.int .i64 xo,.int .i64 (D:Int)] 118))
      exact ⟨h1.nod.cell 2,h1⟩
     have HCALL:=lh hcall
     have HPU:Hid (∀W2 w5 g5 cap5,NodB w W2 b (Fs.past (Fs.past (Fs.past s'))) true x0 (.slice av acc.length cv) acc→w5.ownsRow w.heap.size 118 3 (.slice (some ⟨g5,0,none⟩) (acc.length+1) cap5) (acc.length+1) (wyV acc++[.int .i64 (C:Int),.int .i64 xo,.int .i64 (D:Int)])→Grew W2 w5 (.slice av acc.length cv) (.slice (some ⟨g5,0,none⟩) (acc.length+1) cap5) →
       (w5.cell? ⟨w.heap.size+1,2,none⟩=some (.slice av acc.length cv)∧w5.frozen? ⟨w.heap.size+1,2,none⟩=false)∧NodB w (w5.setCell ⟨w.heap.size+1,2,none⟩ (.slice (some ⟨g5,0,none⟩) (acc.length+1) cap5)) b (Fs.past (Fs.past (Fs.past s'))) true x0 (.slice (some ⟨g5,0,none⟩) (acc.length+1) cap5) (acc++[(UInt8.ofNat C,xo,D)])):=fun W2 w5 g5 cap5 h1 h2 h3=>h1.push (by rw [hCC];exact h2) h3
     have hal:acc.length≤256:=by have:=HQ4.out;omega
     have HAC:=lh hacc
     clear hB hs2 hs' hw hf hcb htb hC hD hxo hrd hbad hcall hCC hacc
     go_wp2_with (first | (go_at_call 92;go_loud ((refine HW.out.mono ?_;rintro e1 w1 ⟨rfl,hk1,hc1⟩;obtain ⟨n2,HNB⟩:=HCALL.out w1 hk1 hc1;have hsz2:w.heap.size≤(w1.alloc (.cells #[.int .i64 (C:Int),.int .i64 xo,.int .i64 (D:Int)] 118)).heap.size:=HNB.out.kept.size;clear hk1 hc1))) | (at_builtin;go_loud ((refine wpList_pushR rfl _ _ 113 118 rfl iW _ 3 24 Tryz.underlying113 hiW hyW0 hyW1 hyW2 rfl (by decide) w.heap.size hsz2 (.slice av acc.length cv) acc.length (wyV acc) rfl HNB.out.ways [.int .i64 (C:Int),.int .i64 xo,.int .i64 (D:Int)] rfl (one_of rfl) (by rw [World.size_alloc];rfl) (by omega) (by omega) ?_;intro g5 cap5 w5 hown5 hgr5;obtain ⟨⟨m5,m6⟩,hq5⟩:=HPU.out _ w5 g5 cap5 HNB.out hown5 hgr5;have HQ5:=lh hq5;clear hown5 hgr5 hq5))))
     go_roundg (q-(k+1))
     case rel=>exact ⟨k+1,by omega,rfl,by go_num,_,_,_,HQ5.out,by rw [List.length_append,HAC.out];rfl,HP3.out,HR.out⟩
     case measure=>omega
   ·have HW:=lh (readWay_bad s' b wr hB.cur hs2 hw)
    have HR:Hid (Fs.rdWs q n (Fs.past (Fs.past s)) []=(rdWay s',[],[])):=by
     have hf:=rdW_bad (n:=n) hw
     show _=_
     rw [←hrd,rdWs_bad (by rw [hf];exact hw),hf]
    have HB:=lh hB
    have hE2:¬rdWay s'=0:=hw
    have hcall:∀w1,KeptF (fun k=>k=b) wr w1→_:=fun w1 hk1=>errsOf (w:=w) (wx:=w1.alloc (.cells #[.int .i64 0,.int .i64 0,.int .i64 0] 118)) (b:=b) ((hB.res.keep (hk1.block _ hB.res.lt (by omega))).keep (Go.Deep.blk_alloc_lt _ _ _ (by have:=hk1.size;have:=hB.res.lt;omega))) ((hB.kept.trans hk1).trans (KeptF.of_below ((Below.refl _ _).alloc (Nat.le_refl _) _)))
    have HCALL:=lh hcall
    generalize rdWay s'=E at *
    clear hB hs2 hs' hrd hacc hcall
    go_wp2_with (go_at_call 92;go_loud ((refine HW.out.mono ?_;rintro e1 w1 ⟨rfl,hk1⟩;obtain ⟨g0,g1,g2,g3,g4,g5,HQ⟩:=HCALL.out w1 hk1;clear hk1)))
    refine bodyPost_ret (results_cell_tmp rfl _ _ ⟨w.heap.size,0,none⟩ (.agg #[.bool false,.int .i64 0,.slice none 0 0]) rfl (loadN' _ _ _ _ _ HQ.out.1)) rfl ?_
    exact ⟨HQ.out.2,.inl ⟨by rw [HR.out];exact hE2,by rw [HR.out];rfl⟩⟩
  ·obtain rfl:k=q:=by omega
   have i1:¬(k:Int)<(k:Int):=by omega
   obtain ⟨av,cv,hv,_,_⟩:=own_form hB.ways
   subst hv
   have c0:=hB.nod.cell 0
   have c1:=hB.nod.cell 1
   have c2:=hB.nod.cell 2
   obtain ⟨g0,g1,g2,g3,g4,g5,HQ⟩:=resOf (x0:=.bool true) (x1:=.int .i64 x0) (x2:=.slice av acc.length cv) hB.res hB.kept
   rw [Nat.sub_self] at hrd
   have HR:Hid (Fs.rdWs k n (Fs.past (Fs.past s)) []=(0,acc,s')):=hrd.symm
   have HOW:Hid (OwnY (((wr.setCell ⟨w.heap.size,0,none⟩ (.bool true)).setCell ⟨w.heap.size,1,none⟩ (.int .i64 x0)).setCell ⟨w.heap.size,2,none⟩ (.slice av acc.length cv)) w.heap.size (.slice av acc.length cv) acc):=by
    have h1:=fun q hq=>(hB.far q hq).2.1
    exact ownsRow_keep (ownsRow_keep (ownsRow_keep hB.ways fun q hq=>heap_other _ _ _ _ _ (h1 q hq)) fun q hq=>heap_other _ _ _ _ _ (h1 q hq)) fun q hq=>heap_other _ _ _ _ _ (h1 q hq)
   have HCU:Hid (CurT (((wr.setCell ⟨w.heap.size,0,none⟩ (.bool true)).setCell ⟨w.heap.size,1,none⟩ (.int .i64 x0)).setCell ⟨w.heap.size,2,none⟩ (.slice av acc.length cv)) b s'):=by
    have hne:b≠w.heap.size:=by have:=hB.lt;omega
    exact RowT.keep (RowT.keep (RowT.keep hB.cur (heap_other _ _ _ _ _ hne)) (heap_other _ _ _ _ _ hne)) (heap_other _ _ _ _ _ hne)
   clear hB hrd hacc hs' hkq
   go_wp2_with fail
   refine bodyPost_ret (results_cell_tmp rfl _ _ ⟨w.heap.size,0,none⟩ (.agg #[.bool true,.int .i64 x0,.slice av acc.length cv]) rfl (loadN' _ _ _ _ _ HQ.out.1)) rfl ?_
   rw [HR.out]
   exact ⟨HQ.out.2,.inr ⟨rfl,_,rfl,HOW.out,HCU.out⟩⟩
end F12
namespace F12
open Go.RowKit Go.Maps
theorem readNode_out (s:List UInt8) (b n:Nat) (w:World) (hc:CurT w b s) (hs:s.length≤140737488355328) (he:Fs.cE s=0) (hsm:¬513<Fs.cN s) (hpar:Fs.cN s%2=1) (he1:Fs.cE (Fs.past s)≠0):
  Calls Tryz.prog 69 #[.pointer (some ⟨b,0,none⟩),.int .i64 (n:Int)] w (NodPost w b false 0 (Fs.cE (Fs.past s),[],[])):=by
 have hm:=nodB_made hc
 have HC:=count_c s b _ hm.cur hs
 have hm1:=hm.count (Fs.past s)
 have hb:=cN_bd s
 rw [he] at HC
 obtain ⟨N0,hN⟩:=Int.eq_ofNat_of_zero_le hb.1
 rw [hN] at HC hsm hb hpar
 have h5:¬(256:Int)<((N0/2:Nat):Int):=by omega
 obtain ⟨q,hq⟩:∃q,q=N0/2:=⟨_,rfl⟩
 rw [←hq] at h5
 have hq2:(N0:Int).tdiv 2=(q:Int):=by rw [hq];rfl
 have hq3:(N0:Int).tmod 2=1:=by
  have:(N0:Int).tmod 2=((N0%2:Nat):Int):=rfl
  omega
 have hwq:IntKind.i64.wrap (q:Int)=(q:Int):=IntWalk.i64_in _ (by omega)
 obtain ⟨W1,hW1⟩:∃W1,W1=((w.alloc (.cells #[.bool false,.int .i64 0,.slice none 0 0] 115)).alloc (.cells #[.bool false,.int .i64 0,.slice none 0 0] 115)).setCell ⟨b,0,none⟩ (.string (bs (Fs.past s))):=⟨_,rfl⟩
 rw [←hW1] at HC hm1
 have HC:=lh HC
 have hm2:=hm1.put 0 (.bool true) (f':=true) (o':=0) rfl
 have HC2:=count_c (Fs.past s) b _ hm2.cur (Nat.le_trans (Fs.past_le s) hs)
 have e0:=hm1.nod.cell 0
 have e1:=hm1.nod.frozen 0
 have hm3:=hm2.count (Fs.past (Fs.past s))
 obtain ⟨W3,hW3⟩:∃W3,W3=(W1.setCell ⟨w.heap.size+1,0,none⟩ (.bool true)).setCell ⟨b,0,none⟩ (.string (bs (Fs.past (Fs.past s)))):=⟨_,rfl⟩
 rw [←hW3] at HC2 hm3
 have HC2:=lh HC2
 have e2:=hm3.nod.cell 1
 have e3:=hm3.nod.frozen 1
 have hm4:=hm3.put 1 (.int .i64 (Fs.cN (Fs.past s))) (f':=true) (o':=Fs.cN (Fs.past s)) rfl
 obtain ⟨g0,g1,g2,g3,g4,g5,HQ⟩:=hm4.errs
 clear hW1 hW3
 clear hm hm1 hm2 hm3 hm4 hs he hN hq hpar hb hsm hc
 generalize Fs.cN (Fs.past s)=x0 at *
 obtain ⟨E,hE⟩:∃E,E=Fs.cE (Fs.past s):=⟨_,rfl⟩
 rw [←hE] at HC2 he1 ⊢
 have he2:¬E=0:=he1
 clear hE
 go_enter Tryz.func69,Tryz.ntmps69
 go_wp2_with (go_at_call 68;first | (refine HC.out.mono ?_;rintro e1 w1 ⟨rfl,rfl⟩) | (refine HC2.out.mono ?_;rintro e1 w1 ⟨rfl,rfl⟩))
 refine bodyPost_ret (results_cell_tmp rfl _ _ ⟨w.heap.size,0,none⟩ (.agg #[.bool false,.int .i64 0,.slice none 0 0]) rfl (loadN' _ _ _ _ _ HQ.out.1)) rfl ?_
 exact ⟨HQ.out.2,.inl ⟨he1,rfl⟩⟩
def RdPost (w:World) (b:Nat) (R:Int × Fs.Nd × List UInt8) (e:Ending) (w':World):Prop:=
 KeptF (fun k=>k=b) w w'∧((R.1≠0∧e=.returned (.tuple #[.agg #[.bool false,.int .i64 0,.slice none 0 0],.int .i64 R.1])) ∨
  (R.1=0∧∃v,e=.returned (.tuple #[.agg #[.bool R.2.1.1.isSome,.int .i64 (R.2.1.1.getD 0),v],.int .i64 0])∧OwnY w' w.heap.size v R.2.1.2∧CurT w' b R.2.2))
theorem readNode_any (s:List UInt8) (b n:Nat) (w:World) (hc:CurT w b s) (hs:s.length≤140737488355328):
  Calls Tryz.prog 69 #[.pointer (some ⟨b,0,none⟩),.int .i64 (n:Int)] w (RdPost w b (Fs.rdN n s)):=by
 unfold Fs.rdN
 by_cases he:Fs.cE s=0
 ·rw [if_neg (fun q=>q he)]
  by_cases hb:513<Fs.cN s
  ·rw [if_pos hb]
   exact readNode_big s b n w hc hs he hb
  ·rw [if_neg hb]
   by_cases hp:Fs.cN s%2=1
   ·rw [if_pos hp]
    by_cases he1:Fs.cE (Fs.past s)=0
    ·rw [if_neg (fun q=>q he1)]
     exact readNode_odd s b n w hc hs he hb hp he1
    ·rw [if_pos he1]
     exact readNode_out s b n w hc hs he hb hp he1
   ·rw [if_neg hp]
    have:=cN_bd s
    exact readNode_even s b n w hc hs he hb (by omega)
 ·rw [if_pos he]
  exact readNode_head s b n w hc hs he
end F12
namespace F12.Fs
open Go.RowKit
theorem rdW_to {n:Nat} {s:List UInt8} (h:(rdW n s).1=0):(rdW n s).2.1.2.2<n∧(rdW n s).2.2.length≤s.length:=by
 by_cases h0:rdWay s=0
 ·have hf:=rdW_ok (n:=n) h0
  have hb:=cN_bd (past (past s))
  by_cases hbad:255<cN s∨(n:Int)≤cN (past (past s))
  ·rw [if_pos hbad] at hf
   rw [hf] at h
   exact absurd h (by decide)
  ·rw [if_neg hbad] at hf
   rw [hf]
   exact ⟨by show (cN (past (past s))).toNat<n;omega,Nat.le_trans (past_le _) (Nat.le_trans (past_le _) (past_le _))⟩
 ·rw [rdW_bad h0] at h
  exact absurd h h0
theorem rdWs_to:∀ {k n:Nat} {s:List UInt8} {acc:List (UInt8 × Int × Nat)},(rdWs k n s acc).1=0→(∀w∈acc,w.2.2<n)→(∀w∈(rdWs k n s acc).2.1,w.2.2<n)∧(rdWs k n s acc).2.1.length=acc.length+k∧(rdWs k n s acc).2.2.length≤s.length
 | 0,_,_,_,_,ha=>⟨ha,rfl,Nat.le_refl _⟩
 | k+1,n,s,acc,h,ha=>by
  by_cases h0:(rdW n s).1=0
  ·rw [rdWs_ok h0] at h ⊢
   obtain ⟨t1,t2⟩:=rdW_to h0
   obtain ⟨r1,r2,r3⟩:=rdWs_to h (fun w hw=>by
    rcases List.mem_append.1 hw with hw | hw
    ·exact ha w hw
    ·obtain rfl:=List.mem_singleton.1 hw
     exact t1)
   refine ⟨r1,?_,Nat.le_trans r3 t2⟩
   rw [r2,List.length_append]
   show acc.length+1+k=acc.length+(k+1)
   omega
  ·rw [rdWs_bad h0] at h
   exact absurd h h0
theorem rdN_to {n:Nat} {s:List UInt8} (h:(rdN n s).1=0):(∀w∈(rdN n s).2.1.2,w.2.2<n)∧(rdN n s).2.1.2.length≤256∧(rdN n s).2.2.length≤s.length:=by
 unfold rdN at h ⊢
 have hb:=cN_bd s
 by_cases h0:cE s=0
 ·rw [if_neg (fun q=>q h0)] at h ⊢
  by_cases h1:513<cN s
  ·rw [if_pos h1] at h
   exact absurd h (by decide)
  ·rw [if_neg h1] at h ⊢
   by_cases h2:cN s%2=1
   ·rw [if_pos h2] at h ⊢
    by_cases h3:cE (past s)=0
    ·rw [if_neg (fun q=>q h3)] at h ⊢
     obtain ⟨r1,r2,r3⟩:=rdWs_to h (fun w hw=>absurd hw (List.not_mem_nil))
     refine ⟨r1,?_,Nat.le_trans r3 (Nat.le_trans (past_le _) (past_le _))⟩
     show (rdWs _ _ _ _).2.1.length≤256
     rw [r2]
     show 0+_≤256
     omega
    ·rw [if_pos h3] at h
     exact absurd h h3
   ·rw [if_neg h2] at h ⊢
    obtain ⟨r1,r2,r3⟩:=rdWs_to h (fun w hw=>absurd hw (List.not_mem_nil))
    refine ⟨r1,?_,Nat.le_trans r3 (past_le _)⟩
    show (rdWs _ _ _ _).2.1.length≤256
    rw [r2]
    show 0+_≤256
    omega
 ·rw [if_pos h0] at h
  exact absurd h h0
theorem rdNs_bad {k:Nat} {s:List UInt8} {N:List Nd} {T:List (List En)} (h:(rdN N.length s).1≠0):rdNs (k+1) s N T=((rdN N.length s).1,([],[]),[]):=by
 show (if (rdN N.length s).1≠0 then _ else _)=_
 rw [if_pos h]
theorem rdNs_wide {k:Nat} {s:List UInt8} {N:List Nd} {T:List (List En)} (h:(rdN N.length s).1=0) (hw:Wide (ent T (rdN N.length s).2.1)):rdNs (k+1) s N T=(3,([],[]),[]):=by
 show (if (rdN N.length s).1≠0 then _ else _)=_
 rw [if_neg (fun q=>q h),if_pos hw]
theorem rdNs_ok {k:Nat} {s:List UInt8} {N:List Nd} {T:List (List En)} (h:(rdN N.length s).1=0) (hw:¬Wide (ent T (rdN N.length s).2.1)):rdNs (k+1) s N T=rdNs k (rdN N.length s).2.2 (N++[(rdN N.length s).2.1]) (T++[ent T (rdN N.length s).2.1]):=by
 show (if (rdN N.length s).1≠0 then _ else _)=_
 rw [if_neg (fun q=>q h),if_neg hw]
theorem Rel.nil:Rel [] []:=⟨rfl,fun _ h=>absurd h (Nat.not_lt_zero _),fun _ h=>absurd h (Nat.not_lt_zero _),fun _ h=>absurd h List.not_mem_nil,fun _ h=>absurd h List.not_mem_nil⟩
theorem Rel.snoc {N:List Nd} {T:List (List En)} {d:Nd} (h:Rel N T) (hd:∀w∈d.2,w.2.2<N.length) (hw:¬Wide (Fs.ent T d)) (hf:Fs.ent T d≠[]):Rel (N++[d]) (T++[Fs.ent T d]):=by
 have hl:=h.len
 refine ⟨by rw [List.length_append,List.length_append,hl];rfl,?_,?_,?_,?_⟩
 ·intro i h1 h2
  rw [List.length_append] at h1
  rcases Nat.lt_or_ge i N.length with q | q
  ·rw [List.getElem_append_left q,List.getElem_append_left (by omega),List.take_append_of_le_length (by omega)]
   exact h.ent i q (by omega)
  ·have hi:i=N.length:=by
    have:[d].length=1:=rfl
    omega
   subst hi
   rw [List.getElem_append_right (Nat.le_refl _)]
   simp only [Nat.sub_self,List.getElem_cons_zero]
   rw [List.getElem_append_right (by omega),List.take_append_of_le_length (by omega),List.take_of_length_le (by omega)]
   simp [hl]
 ·intro i h1 w hw2
  rw [List.length_append] at h1
  rcases Nat.lt_or_ge i N.length with q | q
  ·rw [List.getElem_append_left q] at hw2
   exact h.ahead i q w hw2
  ·have hi:i=N.length:=by
    have:[d].length=1:=rfl
    omega
   subst hi
   rw [List.getElem_append_right (Nat.le_refl _)] at hw2
   simp only [Nat.sub_self,List.getElem_cons_zero] at hw2
   exact hd w hw2
 ·intro t ht
  rcases List.mem_append.1 ht with ht | ht
  ·exact h.size t ht
  ·obtain rfl:=List.mem_singleton.1 ht
   unfold Wide at hw
   omega
 ·intro t ht
  rcases List.mem_append.1 ht with ht | ht
  ·exact h.full t ht
  ·obtain rfl:=List.mem_singleton.1 ht
   exact hf
end F12.Fs
namespace F12
open Go.RowKit Go.Maps
namespace Fs
def num (l:List En):Nat × Nat:=(l.length,deep l)
def sumT (L:List (Nat × Nat)) (ws:List (UInt8 × Int × Nat)):Nat:=(ws.map fun w=>(L.getD w.2.2 (0,0)).1).sum
def maxD (L:List (Nat × Nat)):List (UInt8 × Int × Nat)→Nat
 | []=>0
 | w :: ws=>max (if 0<(L.getD w.2.2 (0,0)).1 then (L.getD w.2.2 (0,0)).2+1 else 0) (maxD L ws)
theorem maxD_snoc (L:List (Nat × Nat)) (ws:List (UInt8 × Int × Nat)) (w:UInt8 × Int × Nat):maxD L (ws++[w])=max (maxD L ws) (if 0<(L.getD w.2.2 (0,0)).1 then (L.getD w.2.2 (0,0)).2+1 else 0):=by
 induction ws with
 | nil=>show max _ 0=max 0 _;omega
 | cons v ws ih=>
  show max _ (maxD L (ws++[w]))=max (max _ (maxD L ws)) _
  rw [ih];omega
theorem sumT_snoc (L:List (Nat × Nat)) (ws:List (UInt8 × Int × Nat)) (w:UInt8 × Int × Nat):sumT L (ws++[w])=sumT L ws+(L.getD w.2.2 (0,0)).1:=by
 unfold sumT
 rw [List.map_append,List.sum_append]
 simp
theorem getD_num (T:List (List En)) (i:Nat):(T.map num).getD i (0,0)=num (T.getD i []):=by
 rw [List.getD_eq_getElem?_getD,List.getD_eq_getElem?_getD,List.getElem?_map]
 cases T[i]? <;> rfl
theorem ent_num (T:List (List En)) (n:Nd):num (ent T n)=((ofEnd n.1).length+sumT (T.map num) n.2,maxD (T.map num) n.2):=by
 unfold ent
 have hl:∀ws:List (UInt8 × Int × Nat),(ws.flatMap fun w=>upW w.1 w.2.1 (T.getD w.2.2 [])).length=sumT (T.map num) ws∧deep (ws.flatMap fun w=>upW w.1 w.2.1 (T.getD w.2.2 []))=maxD (T.map num) ws:=by
  intro ws
  induction ws with
  | nil=>exact ⟨rfl,rfl⟩
  | cons w ws ih=>
   rw [List.flatMap_cons,List.length_append,deep_append,ih.1,ih.2,upW_length]
   refine ⟨?_,?_⟩
   ·show _=((w :: ws).map _).sum
    rw [List.map_cons,List.sum_cons,getD_num]
    rfl
   ·show _=max _ (maxD _ ws)
    rw [getD_num]
    by_cases h0:T.getD w.2.2 []=[]
    ·rw [h0]
     rfl
    ·rw [deep_upW h0,if_pos (show 0<(num (T.getD w.2.2 [])).1 from List.length_pos_iff.2 h0)]
     rfl
 show ((ofEnd n.1++_).length,deep (ofEnd n.1++_))=_
 rw [List.length_append,deep_append,(hl n.2).1,(hl n.2).2]
 congr 1
 cases n.1 <;> show max 0 _=_ <;> omega
end Fs
def rsV (L:List (Nat × Nat)):List Value:=L.flatMap fun x=>[.int .i32 (x.1:Int),.int .i32 (x.2:Int)]
def OwnR (w:World) (B:Nat) (v:Value) (L:List (Nat × Nat)):Prop:=w.ownsRow B 140 2 v L.length (rsV L)
def RstS (w:World) (v:Value) (L:List (Nat × Nat)):Prop:=
 ∃a cap,v=.slice a L.length cap∧L.length≤cap∧cap≤9223372036854775807∧(0<L.length→∃g,a=some ⟨g,0,none⟩∧g<w.heap.size∧∀i (_:i<L.length),w.cell? ⟨g,i*2,none⟩=some (.int .i32 (L[i].1:Int))∧w.cell? ⟨g,i*2+1,none⟩=some (.int .i32 (L[i].2:Int)))
theorem OwnR.rst {w:World} {B:Nat} {v:Value} {l:List (Nat × Nat)} (h:OwnR w B v l):RstS w v l:=by
 rcases h.2 with ⟨rfl,h0⟩ | ⟨g,cap,cur,rfl,hg,hh,hnc,hcp,hcs,htake⟩
 ·exact ⟨none,0,by rw [h0],by omega,by omega,fun h=>by omega⟩
 ·have hown:w.ownsRow B 140 2 (.slice (some ⟨g,0,none⟩) l.length cap) l.length (rsV l):=h
  have e:∀j u,(rsV l)[j]?=some u→w.cell? ⟨g,j,none⟩=some u:=fun j u hj=>by
   have h:=hown.cells (g:=g) rfl j u hj
   rw [Addr.add_lit,Nat.zero_add] at h
   exact h
  have hv:∀(l:List (Nat × Nat)) i (h:i<l.length),(rsV l)[i*2]?=some (.int .i32 (l[i].1:Int))∧(rsV l)[i*2+1]?=some (.int .i32 (l[i].2:Int)):=by
   intro l
   induction l with
   | nil=>intro i h;exact absurd h (Nat.not_lt_zero _)
   | cons x l ih=>
    intro i h
    cases i with
    | zero=>exact ⟨rfl,rfl⟩
    | succ i=>
     have:=ih i (by simpa using h)
     rw [show (i+1)*2=i*2+2 by omega]
     exact this
  refine ⟨_,cap,rfl,hnc,(by unfold maxLen at hcp;exact hcp),fun _=>⟨g,rfl,(hown.lt g rfl).2,fun i hi=>⟨e _ _ (hv l i hi).1,e _ _ (hv l i hi).2⟩⟩⟩
theorem aggR (w:World):(isAgg 140).run Tryz.prog w=.ok true w:=by kernel_rfl
theorem sizeR (w:World):(sizeOf 140).run Tryz.prog w=.ok 2 w:=by kernel_rfl
theorem loadR (w:World) (b:Nat) (c0 c1:Value) (h:RowT 140 w b #[c0,c1]):(loadVar 140 ⟨b,0,none⟩).run Tryz.prog w=.ok (.agg #[c0,c1]) w:=by
 unfold loadVar
 rw [Sem.run_bind,aggR]
 simp only [Result.andThen_ok,if_true,Sem.run_bind,sizeR]
 have h:=run_loadCells_list (P:=Tryz.prog) w ⟨b,0,none⟩ [c0,c1] (fun j v hj=>by
  match j,hj with
  | 0,hj=>simp at hj;subst hj;simpa [Addr.add] using h.cell 0
  | 1,hj=>simp at hj;subst hj;simpa [Addr.add] using h.cell 1)
 rw [show [c0,c1].length=2 from rfl] at h
 rw [h]
 rfl
theorem results_cell_1 {P:Program} {fn:Func} {a:Tmp} {t:TypeId} (h:fn.results=#[.cell a t]) (tmps:Array Value) (w:World) (p:Addr) (v:Value) (ha:tmps.getD a undef=.pointer (some p)) (hl:(loadVar t p).run P w=.ok v w):
  (results fn tmps).run P w=.ok v w:=by
 have h2:(asAddr (tmps.getD a undef)).run P w=.ok p w:=by rw [ha];rfl
 unfold results
 rw [h]
 simp only [Sem.run_bind,List.mapM_toArray,List.mapM_cons,List.mapM_nil,h2,Result.andThen_ok,hl,Sem.run_pure,Sem.run_map]
 simp
structure RstB (w wx:World) (t d:Nat):Prop where
 res:RowT 140 wx (w.heap.size+1) #[.int .i32 0,.int .i32 0]
 row:RowT 140 wx (w.heap.size+1+1) #[.int .i32 (t:Int),.int .i32 (d:Int)]
 bel:Below w.heap.size w wx
theorem RstB.below {w wx w':World} {t d:Nat} (h:RstB w wx t d) (hb:Below wx.heap.size wx w'):RstB w w' t d:=
 ⟨h.res.keep (hb.block _ h.res.lt),h.row.keep (hb.block _ h.row.lt),h.bel.trans (hb.mono h.bel.size)⟩
theorem RstB.put {w wx:World} {t d t' d':Nat} (h:RstB w wx t d) (i:Nat) (v:Value) (hx:(#[.int .i32 (t:Int),.int .i32 (d:Int)]:Array Value).setIfInBounds i v=#[.int .i32 (t':Int),.int .i32 (d':Int)]):RstB w (wx.setCell ⟨w.heap.size+1+1,i,none⟩ v) t' d':=by
 have h1:=h.row.set i v
 rw [hx] at h1
 exact ⟨h.res.keep (heap_other _ _ _ _ _ (by omega)),h1,h.bel.setCell (by show w.heap.size≤w.heap.size+1+1;omega) _⟩
theorem RstB.cast {w wx:World} {t d t' d':Nat} (h:RstB w wx t d) (e1:t=t') (e2:d=d'):RstB w wx t' d':=e1 ▸ e2 ▸ h
theorem rstB_made (w:World) (_:Value) (t:Nat) (cs:Array Value):RstB w (((w.alloc (.cells cs 115)).alloc (.cells #[.int .i32 0,.int .i32 0] 140)).alloc (.cells #[.int .i32 (t:Int),.int .i32 ((0:Nat):Int)] 140)) t 0:=by
 have s1:(w.alloc (.cells cs 115)).heap.size=w.heap.size+1:=World.size_alloc _ _
 have s2:((w.alloc (.cells cs 115)).alloc (.cells #[.int .i32 0,.int .i32 0] 140)).heap.size=w.heap.size+1+1:=by rw [World.size_alloc,s1]
 refine ⟨?_,?_,?_⟩
 ·show _=_
  rw [Go.Deep.blk_alloc_lt _ _ _ (by omega),←s1]
  exact Go.Deep.blk_alloc_new _ _
 ·show _=_
  rw [←s2]
  exact Go.Deep.blk_alloc_new _ _
 ·exact (((Below.refl _ _).alloc (Nat.le_refl _) _).alloc (by omega) _).alloc (by omega) _
theorem rests_false (w:World) (o:Int) (wv bv:Value) (ws:List (UInt8 × Int × Nat)) (L:List (Nat × Nat)) (hw:WayS w wv ws) (hl:RstS w bv L) (hws:ws.length≤256) (hto:∀x∈ws,x.2.2<L.length) (hL:∀x∈L,x.1≤65536∧x.2≤64):
  Calls Tryz.prog 70 #[.agg #[.bool false,.int .i64 o,wv],bv] w fun e w'=>e=.returned (.agg #[.int .i32 ((0+Fs.sumT L ws:Nat):Int),.int .i32 (Fs.maxD L ws:Int)])∧Below w.heap.size w w':=by
 obtain ⟨aw,cw,rfl,hwc,hwm,hwr⟩:=hw
 obtain ⟨al,cl,rfl,hlc,hlm,hlr⟩:=hl
 have hwr2:∀wx,Below w.heap.size w wx→0<ws.length→∃g,aw=some ⟨g,0,none⟩∧∀i (_:i<ws.length),wx.cell? ⟨g,i*3,none⟩=some (.int .i64 (ws[i].1.toNat:Nat))∧wx.cell? ⟨g,i*3+1,none⟩=some (.int .i64 ws[i].2.1)∧wx.cell? ⟨g,i*3+2,none⟩=some (.int .i64 (ws[i].2.2:Nat)):=fun wx hb h0=>by
  obtain ⟨g,h1,h2,h3⟩:=hwr h0
  exact ⟨g,h1,fun i hi=>⟨(hb.cell (p:=⟨g,i*3,none⟩) h2).trans (h3 i hi).1,(hb.cell (p:=⟨g,i*3+1,none⟩) h2).trans (h3 i hi).2.1,(hb.cell (p:=⟨g,i*3+2,none⟩) h2).trans (h3 i hi).2.2⟩⟩
 have hlr2:∀wx,Below w.heap.size w wx→0<L.length→∃g,al=some ⟨g,0,none⟩∧∀i (_:i<L.length),wx.cell? ⟨g,i*2,none⟩=some (.int .i32 (L[i].1:Int))∧wx.cell? ⟨g,i*2+1,none⟩=some (.int .i32 (L[i].2:Int)):=fun wx hb h0=>by
  obtain ⟨g,h1,h2,h3⟩:=hlr h0
  exact ⟨g,h1,fun i hi=>⟨(hb.cell (p:=⟨g,i*2,none⟩) h2).trans (h3 i hi).1,(hb.cell (p:=⟨g,i*2+1,none⟩) h2).trans (h3 i hi).2⟩⟩
 have HWR:=lh hwr2
 have HLR:=lh hlr2
 have HM:=lh (rstB_made w (.agg #[]) 0 #[.bool false,.int .i64 o,.slice aw ws.length cw])
 have HTO:=lh hto
 have HL:=lh hL
 obtain ⟨m,hm⟩:∃m,m=ws.length:=⟨_,rfl⟩
 rw [←hm] at hwc hws
 have HMM:=lh hm
 obtain ⟨nl,hnl⟩:∃nl,nl=L.length:=⟨_,rfl⟩
 rw [←hnl] at hlc
 have HNL:=lh hnl
 rw [←hm,←hnl]
 rw [←hm] at HM
 obtain ⟨TT,hTT⟩:∃TT,TT=0+Fs.sumT L ws:=⟨_,rfl⟩
 obtain ⟨DD,hDD⟩:∃DD,DD=Fs.maxD L ws:=⟨_,rfl⟩
 rw [←hTT,←hDD]
 have HTT:=lh hTT
 have HDD:=lh hDD
 clear hwr hlr hwr2 hlr2 hto hL hm hnl hTT hDD
 go_enter Tryz.func70,Tryz.ntmps70
 go_wp2_with fail
 go_loopg [15] m (fun gg iv wx=>∃k:Nat,k≤m∧gg=m-k∧iv=.int .i64 (k:Int)∧Hid (RstB w wx (0+Fs.sumT L (ws.take k)) (Fs.maxD L (ws.take k)))∧Hid (Fs.sumT L (ws.take k)≤k*65536∧Fs.maxD L (ws.take k)≤65))
 case atStart=>exact ⟨0,by omega,rfl,rfl,HM.out,by refine ⟨?_,?_⟩ <;> show 0≤_ <;> omega⟩
 case round=>
  clear HM
  obtain ⟨k,hk,rfl,rfl,hB,hS⟩:=hrel
  by_cases hkm:k<m
  ·have i1:(k:Int)<(m:Int):=by omega
   have kx:k<ws.length:=by rw [←HMM.out];exact hkm
   obtain ⟨gw,rfl,hcw⟩:=HWR.out wr hB.out.bel (by omega)
   obtain ⟨a0,a1,a2⟩:=hcw k kx
   have hto:=HTO.out _ (List.getElem_mem kx)
   have htk:ws.take (k+1)=ws.take k++[ws[k]]:=List.take_succ_eq_append_getElem kx
   obtain ⟨c,x,tt,hway⟩:∃c x tt,ws[k]=(c,x,tt):=⟨_,_,_,rfl⟩
   rw [hway] at a0 a1 a2 hto htk
   dsimp only at a0 a1 a2 hto
   have hB1:=hB.out.below ((Below.refl _ _).alloc (Nat.le_refl _) (.cells #[.int .i64 (c.toNat:Nat),.int .i64 x,.int .i64 (tt:Nat)] 118))
   obtain ⟨gl,rfl,hcl⟩:=HLR.out _ hB1.bel (by omega)
   obtain ⟨b0,b1⟩:=hcl tt hto
   have hLt:=HL.out _ (List.getElem_mem hto)
   have hgd:L.getD tt (0,0)=L[tt]:=by rw [List.getD_eq_getElem?_getD,List.getElem?_eq_getElem hto];rfl
   have hst:Fs.sumT L (ws.take (k+1))=Fs.sumT L (ws.take k)+L[tt].1:=by rw [htk,Fs.sumT_snoc,hgd]
   have hmt:Fs.maxD L (ws.take (k+1))=max (Fs.maxD L (ws.take k)) (if 0<L[tt].1 then L[tt].2+1 else 0):=by rw [htk,Fs.maxD_snoc,hgd]
   have hlt:(tt:Int)<(nl:Int):=by have:=HNL.out;omega
   have hS2:=hS.out
   have i3:0≤(tt:Int):=by omega
   generalize Fs.sumT L (ws.take k)=t at *
   generalize Fs.maxD L (ws.take k)=d at *
   generalize L[tt].1=p at *
   generalize L[tt].2=q at *
   have hB2:=hB1.below ((Below.refl _ _).alloc (Nat.le_refl _) (.cells #[.int .i32 (p:Int),.int .i32 (q:Int)] 140))
   have r0:=hB2.row.cell 0
   have r1:=hB2.row.frozen 0
   obtain ⟨T2,hT2⟩:∃T2,T2=0+(t+p):=⟨_,rfl⟩
   obtain ⟨T1,hT1⟩:∃T1,T1=0+t:=⟨_,rfl⟩
   obtain ⟨q2,hq2⟩:∃q2,q2=q+1:=⟨_,rfl⟩
   obtain ⟨D2,hD2⟩:∃D2,D2=max d q2:=⟨_,rfl⟩
   rw [←hT1] at hB2 r0
   have hwp:IntKind.i32.wrap ((T1:Int)+(p:Int))=(T2:Int):=by rw [IntKind.wrap_i32];omega
   have hwq:IntKind.i32.wrap ((q:Int)+1)=(q2:Int):=by rw [IntKind.wrap_i32];omega
   clear htk hto hcl hgd hS hB hcw hway hB1
   by_cases hp:0<p
   ·have j1:0<(p:Int):=by omega
    rw [if_pos hp] at hmt
    have hB3:=hB2.put 0 (.int .i32 (T2:Int)) (t':=T2) (d':=d) rfl
    have r2:=hB3.row.cell 1
    have r3:=hB3.row.frozen 1
    have hB4:=hB3.put 1 (.int .i32 (D2:Int)) (t':=T2) (d':=D2) rfl
    have HB4:=lh (hB4.cast (show T2=0+Fs.sumT L (ws.take (k+1)) by omega) (show D2=Fs.maxD L (ws.take (k+1)) by omega))
    have HS4:Hid (Fs.sumT L (ws.take (k+1))≤(k+1)*65536∧Fs.maxD L (ws.take (k+1))≤65):=by show _∧_;omega
    have hmx:max (d:Int) (q2:Int)=(D2:Int):=by omega
    clear hB2 hB3 hB4 hst hmt hp hS2 hT2 hT1 hq2 hD2
    go_wp2_with fail
    go_roundg (m-(k+1))
    case rel=>exact ⟨k+1,by omega,rfl,by go_num,by first | exact HB4.out | (rw [hmx];exact HB4.out),HS4.out⟩
    case measure=>omega
   ·obtain rfl:p=0:=by omega
    have j1:¬(0:Int)<((0:Nat):Int):=by omega
    rw [if_neg hp] at hmt
    have HB4:=lh (hB2.cast (show T1=0+Fs.sumT L (ws.take (k+1)) by omega) (show d=Fs.maxD L (ws.take (k+1)) by omega))
    have HS4:Hid (Fs.sumT L (ws.take (k+1))≤(k+1)*65536∧Fs.maxD L (ws.take (k+1))≤65):=by show _∧_;omega
    clear hB2 hst hmt hp hS2 hT2 hT1 hq2 hD2
    go_wp2_with fail
    go_roundg (m-(k+1))
    case rel=>exact ⟨k+1,by omega,rfl,by go_num,HB4.out,HS4.out⟩
    case measure=>omega
  ·obtain rfl:k=m:=by omega
   have i1:¬(k:Int)<(k:Int):=by omega
   have hB2:=hB.out
   rw [List.take_of_length_le (by rw [←HMM.out];exact Nat.le_refl _)] at hB2
   rw [←HTT.out,←HDD.out] at hB2
   have c0:=hB2.row.cell 0
   have c1:=hB2.row.cell 1
   have g0:=hB2.res.frozen 0
   have g1:=hB2.res.cell 0
   have q1:=hB2.res.set 0 (.int .i32 (TT:Int))
   have g2:(wr.setCell ⟨w.heap.size+1,0,none⟩ (.int .i32 (TT:Int))).cell? ⟨w.heap.size+1,1,none⟩=some (.int .i32 0):=q1.cell 1
   have g3:=q1.frozen 1
   have q2:RowT 140 ((wr.setCell ⟨w.heap.size+1,0,none⟩ (.int .i32 (TT:Int))).setCell ⟨w.heap.size+1,1,none⟩ (.int .i32 (DD:Int))) (w.heap.size+1) #[.int .i32 (TT:Int),.int .i32 (DD:Int)]:=q1.set 1 _
   have HQ:=lh q2
   have HBE:Hid (Below w.heap.size w ((wr.setCell ⟨w.heap.size+1,0,none⟩ (.int .i32 (TT:Int))).setCell ⟨w.heap.size+1,1,none⟩ (.int .i32 (DD:Int)))):=(hB2.bel.setCell (by show w.heap.size≤w.heap.size+1;omega) _).setCell (by show w.heap.size≤w.heap.size+1;omega) _
   clear hB hS hB2 q1 q2 hkm
   go_wp2_with fail
   refine bodyPost_ret (results_cell_1 rfl _ _ ⟨w.heap.size+1,0,none⟩ (.agg #[.int .i32 (TT:Int),.int .i32 (DD:Int)]) rfl (loadR _ _ _ _ HQ.out)) rfl ?_
   exact ⟨rfl,HBE.out⟩
theorem rests_true (w:World) (o:Int) (wv bv:Value) (ws:List (UInt8 × Int × Nat)) (L:List (Nat × Nat)) (hw:WayS w wv ws) (hl:RstS w bv L) (hws:ws.length≤256) (hto:∀x∈ws,x.2.2<L.length) (hL:∀x∈L,x.1≤65536∧x.2≤64):
  Calls Tryz.prog 70 #[.agg #[.bool true,.int .i64 o,wv],bv] w fun e w'=>e=.returned (.agg #[.int .i32 ((1+Fs.sumT L ws:Nat):Int),.int .i32 (Fs.maxD L ws:Int)])∧Below w.heap.size w w':=by
 obtain ⟨aw,cw,rfl,hwc,hwm,hwr⟩:=hw
 obtain ⟨al,cl,rfl,hlc,hlm,hlr⟩:=hl
 have hwr2:∀wx,Below w.heap.size w wx→0<ws.length→∃g,aw=some ⟨g,0,none⟩∧∀i (_:i<ws.length),wx.cell? ⟨g,i*3,none⟩=some (.int .i64 (ws[i].1.toNat:Nat))∧wx.cell? ⟨g,i*3+1,none⟩=some (.int .i64 ws[i].2.1)∧wx.cell? ⟨g,i*3+2,none⟩=some (.int .i64 (ws[i].2.2:Nat)):=fun wx hb h0=>by
  obtain ⟨g,h1,h2,h3⟩:=hwr h0
  exact ⟨g,h1,fun i hi=>⟨(hb.cell (p:=⟨g,i*3,none⟩) h2).trans (h3 i hi).1,(hb.cell (p:=⟨g,i*3+1,none⟩) h2).trans (h3 i hi).2.1,(hb.cell (p:=⟨g,i*3+2,none⟩) h2).trans (h3 i hi).2.2⟩⟩
 have hlr2:∀wx,Below w.heap.size w wx→0<L.length→∃g,al=some ⟨g,0,none⟩∧∀i (_:i<L.length),wx.cell? ⟨g,i*2,none⟩=some (.int .i32 (L[i].1:Int))∧wx.cell? ⟨g,i*2+1,none⟩=some (.int .i32 (L[i].2:Int)):=fun wx hb h0=>by
  obtain ⟨g,h1,h2,h3⟩:=hlr h0
  exact ⟨g,h1,fun i hi=>⟨(hb.cell (p:=⟨g,i*2,none⟩) h2).trans (h3 i hi).1,(hb.cell (p:=⟨g,i*2+1,none⟩) h2).trans (h3 i hi).2⟩⟩
 have HWR:=lh hwr2
 have HLR:=lh hlr2
 have HM:=lh (rstB_made w (.agg #[]) 1 #[.bool true,.int .i64 o,.slice aw ws.length cw])
 have HTO:=lh hto
 have HL:=lh hL
 obtain ⟨m,hm⟩:∃m,m=ws.length:=⟨_,rfl⟩
 rw [←hm] at hwc hws
 have HMM:=lh hm
 obtain ⟨nl,hnl⟩:∃nl,nl=L.length:=⟨_,rfl⟩
 rw [←hnl] at hlc
 have HNL:=lh hnl
 rw [←hm,←hnl]
 rw [←hm] at HM
 obtain ⟨TT,hTT⟩:∃TT,TT=1+Fs.sumT L ws:=⟨_,rfl⟩
 obtain ⟨DD,hDD⟩:∃DD,DD=Fs.maxD L ws:=⟨_,rfl⟩
 rw [←hTT,←hDD]
 have HTT:=lh hTT
 have HDD:=lh hDD
 clear hwr hlr hwr2 hlr2 hto hL hm hnl hTT hDD
 go_enter Tryz.func70,Tryz.ntmps70
 go_wp2_with fail
 go_loopg [15] m (fun gg iv wx=>∃k:Nat,k≤m∧gg=m-k∧iv=.int .i64 (k:Int)∧Hid (RstB w wx (1+Fs.sumT L (ws.take k)) (Fs.maxD L (ws.take k)))∧Hid (Fs.sumT L (ws.take k)≤k*65536∧Fs.maxD L (ws.take k)≤65))
 case atStart=>exact ⟨0,by omega,rfl,rfl,HM.out,by refine ⟨?_,?_⟩ <;> show 0≤_ <;> omega⟩
 case round=>
  clear HM
  obtain ⟨k,hk,rfl,rfl,hB,hS⟩:=hrel
  by_cases hkm:k<m
  ·have i1:(k:Int)<(m:Int):=by omega
   have kx:k<ws.length:=by rw [←HMM.out];exact hkm
   obtain ⟨gw,rfl,hcw⟩:=HWR.out wr hB.out.bel (by omega)
   obtain ⟨a0,a1,a2⟩:=hcw k kx
   have hto:=HTO.out _ (List.getElem_mem kx)
   have htk:ws.take (k+1)=ws.take k++[ws[k]]:=List.take_succ_eq_append_getElem kx
   obtain ⟨c,x,tt,hway⟩:∃c x tt,ws[k]=(c,x,tt):=⟨_,_,_,rfl⟩
   rw [hway] at a0 a1 a2 hto htk
   dsimp only at a0 a1 a2 hto
   have hB1:=hB.out.below ((Below.refl _ _).alloc (Nat.le_refl _) (.cells #[.int .i64 (c.toNat:Nat),.int .i64 x,.int .i64 (tt:Nat)] 118))
   obtain ⟨gl,rfl,hcl⟩:=HLR.out _ hB1.bel (by omega)
   obtain ⟨b0,b1⟩:=hcl tt hto
   have hLt:=HL.out _ (List.getElem_mem hto)
   have hgd:L.getD tt (0,0)=L[tt]:=by rw [List.getD_eq_getElem?_getD,List.getElem?_eq_getElem hto];rfl
   have hst:Fs.sumT L (ws.take (k+1))=Fs.sumT L (ws.take k)+L[tt].1:=by rw [htk,Fs.sumT_snoc,hgd]
   have hmt:Fs.maxD L (ws.take (k+1))=max (Fs.maxD L (ws.take k)) (if 0<L[tt].1 then L[tt].2+1 else 0):=by rw [htk,Fs.maxD_snoc,hgd]
   have hlt:(tt:Int)<(nl:Int):=by have:=HNL.out;omega
   have hS2:=hS.out
   have i3:0≤(tt:Int):=by omega
   generalize Fs.sumT L (ws.take k)=t at *
   generalize Fs.maxD L (ws.take k)=d at *
   generalize L[tt].1=p at *
   generalize L[tt].2=q at *
   have hB2:=hB1.below ((Below.refl _ _).alloc (Nat.le_refl _) (.cells #[.int .i32 (p:Int),.int .i32 (q:Int)] 140))
   have r0:=hB2.row.cell 0
   have r1:=hB2.row.frozen 0
   obtain ⟨T2,hT2⟩:∃T2,T2=1+(t+p):=⟨_,rfl⟩
   obtain ⟨T1,hT1⟩:∃T1,T1=1+t:=⟨_,rfl⟩
   obtain ⟨q2,hq2⟩:∃q2,q2=q+1:=⟨_,rfl⟩
   obtain ⟨D2,hD2⟩:∃D2,D2=max d q2:=⟨_,rfl⟩
   rw [←hT1] at hB2 r0
   have hwp:IntKind.i32.wrap ((T1:Int)+(p:Int))=(T2:Int):=by rw [IntKind.wrap_i32];omega
   have hwq:IntKind.i32.wrap ((q:Int)+1)=(q2:Int):=by rw [IntKind.wrap_i32];omega
   clear htk hto hcl hgd hS hB hcw hway hB1
   by_cases hp:0<p
   ·have j1:0<(p:Int):=by omega
    rw [if_pos hp] at hmt
    have hB3:=hB2.put 0 (.int .i32 (T2:Int)) (t':=T2) (d':=d) rfl
    have r2:=hB3.row.cell 1
    have r3:=hB3.row.frozen 1
    have hB4:=hB3.put 1 (.int .i32 (D2:Int)) (t':=T2) (d':=D2) rfl
    have HB4:=lh (hB4.cast (show T2=1+Fs.sumT L (ws.take (k+1)) by omega) (show D2=Fs.maxD L (ws.take (k+1)) by omega))
    have HS4:Hid (Fs.sumT L (ws.take (k+1))≤(k+1)*65536∧Fs.maxD L (ws.take (k+1))≤65):=by show _∧_;omega
    have hmx:max (d:Int) (q2:Int)=(D2:Int):=by omega
    clear hB2 hB3 hB4 hst hmt hp hS2 hT2 hT1 hq2 hD2
    go_wp2_with fail
    go_roundg (m-(k+1))
    case rel=>exact ⟨k+1,by omega,rfl,by go_num,by first | exact HB4.out | (rw [hmx];exact HB4.out),HS4.out⟩
    case measure=>omega
   ·obtain rfl:p=0:=by omega
    have j1:¬(0:Int)<((0:Nat):Int):=by omega
    rw [if_neg hp] at hmt
    have HB4:=lh (hB2.cast (show T1=1+Fs.sumT L (ws.take (k+1)) by omega) (show d=Fs.maxD L (ws.take (k+1)) by omega))
    have HS4:Hid (Fs.sumT L (ws.take (k+1))≤(k+1)*65536∧Fs.maxD L (ws.take (k+1))≤65):=by show _∧_;omega
    clear hB2 hst hmt hp hS2 hT2 hT1 hq2 hD2
    go_wp2_with fail
    go_roundg (m-(k+1))
    case rel=>exact ⟨k+1,by omega,rfl,by go_num,HB4.out,HS4.out⟩
    case measure=>omega
  ·obtain rfl:k=m:=by omega
   have i1:¬(k:Int)<(k:Int):=by omega
   have hB2:=hB.out
   rw [List.take_of_length_le (by rw [←HMM.out];exact Nat.le_refl _)] at hB2
   rw [←HTT.out,←HDD.out] at hB2
   have c0:=hB2.row.cell 0
   have c1:=hB2.row.cell 1
   have g0:=hB2.res.frozen 0
   have g1:=hB2.res.cell 0
   have q1:=hB2.res.set 0 (.int .i32 (TT:Int))
   have g2:(wr.setCell ⟨w.heap.size+1,0,none⟩ (.int .i32 (TT:Int))).cell? ⟨w.heap.size+1,1,none⟩=some (.int .i32 0):=q1.cell 1
   have g3:=q1.frozen 1
   have q2:RowT 140 ((wr.setCell ⟨w.heap.size+1,0,none⟩ (.int .i32 (TT:Int))).setCell ⟨w.heap.size+1,1,none⟩ (.int .i32 (DD:Int))) (w.heap.size+1) #[.int .i32 (TT:Int),.int .i32 (DD:Int)]:=q1.set 1 _
   have HQ:=lh q2
   have HBE:Hid (Below w.heap.size w ((wr.setCell ⟨w.heap.size+1,0,none⟩ (.int .i32 (TT:Int))).setCell ⟨w.heap.size+1,1,none⟩ (.int .i32 (DD:Int)))):=(hB2.bel.setCell (by show w.heap.size≤w.heap.size+1;omega) _).setCell (by show w.heap.size≤w.heap.size+1;omega) _
   clear hB hS hB2 q1 q2 hkm
   go_wp2_with fail
   refine bodyPost_ret (results_cell_1 rfl _ _ ⟨w.heap.size+1,0,none⟩ (.agg #[.int .i32 (TT:Int),.int .i32 (DD:Int)]) rfl (loadR _ _ _ _ HQ.out)) rfl ?_
   exact ⟨rfl,HBE.out⟩
end F12
namespace F12.Fs
open Go.RowKit
theorem back_z (f:Nat) (x:Int × Int × Int):(Pl.back f x).2.1=x.2.1∧(Pl.back f x).2.2=x.2.2:=by
 unfold Pl.back
 split <;> exact ⟨rfl,rfl⟩
theorem rdNum_pos {l:List UInt8} (h:(Pl.rdNum l).2.2=0):1≤(Pl.rdNum l).2.1∧l≠[]:=by
 cases l with
 | nil=>exact absurd h (by decide)
 | cons c t=>
  refine ⟨?_,List.cons_ne_nil _ _⟩
  have e:Pl.rdNum (c :: t)=if c.toNat ^^^ Pl.flipOf c<240 then Pl.back (Pl.flipOf c) (((c.toNat ^^^ Pl.flipOf c:Nat):Int)-128,1,0) else Pl.back (Pl.flipOf c) (Pl.rdWide c t (Pl.flipOf c)):=rfl
  rw [e] at h ⊢
  by_cases h1:c.toNat ^^^ Pl.flipOf c<240
  ·rw [if_pos h1,(back_z _ _).1]
   exact Int.le_refl 1
  ·rw [if_neg h1] at h ⊢
   rw [(back_z _ _).2] at h
   rw [(back_z _ _).1]
   unfold Pl.rdWide at h ⊢
   split at h
   ·exact absurd h (by decide)
   ·rename_i a1
    rw [if_neg a1]
    split at h
    ·exact absurd h (by decide)
    ·rename_i a2
     rw [if_neg a2]
     split at h
     ·exact absurd h (by decide)
     ·rename_i a3
      rw [if_neg a3]
      show 1≤((c.toNat ^^^ Pl.flipOf c:Nat):Int)-238
      omega
theorem past_lt {s:List UInt8} (h:cE s=0):(past s).length<s.length:=by
 unfold cE Pl.rdCount at h
 split at h
 ·exact absurd h (by decide)
 ·rename_i hn
  obtain ⟨h1,h2⟩:=rdNum_pos h
  unfold past Pl.rdCount
  rw [if_neg hn,List.length_drop]
  have:=List.length_pos_iff.2 h2
  omega
theorem rdN_lt {n:Nat} {s:List UInt8} (h:(rdN n s).1=0):(rdN n s).2.2.length<s.length:=by
 unfold rdN at h ⊢
 by_cases h0:cE s=0
 ·have hp:=past_lt h0
  rw [if_neg (fun q=>q h0)] at h ⊢
  by_cases h1:513<cN s
  ·rw [if_pos h1] at h
   exact absurd h (by decide)
  ·rw [if_neg h1] at h ⊢
   by_cases h2:cN s%2=1
   ·rw [if_pos h2] at h ⊢
    by_cases h3:cE (past s)=0
    ·rw [if_neg (fun q=>q h3)] at h ⊢
     obtain ⟨_,_,r3⟩:=rdWs_to h (fun w hw=>absurd hw (List.not_mem_nil))
     exact Nat.lt_of_le_of_lt r3 (Nat.lt_of_le_of_lt (past_le _) hp)
    ·rw [if_pos h3] at h
     exact absurd h h3
   ·rw [if_neg h2] at h ⊢
    obtain ⟨_,_,r3⟩:=rdWs_to h (fun w hw=>absurd hw (List.not_mem_nil))
    exact Nat.lt_of_le_of_lt r3 hp
 ·rw [if_pos h0] at h
  exact absurd h h0
end F12.Fs
namespace F12
open Go.RowKit Go.Maps
def ndV:List Fs.Nd→List Value→List Value
 | d :: N,v :: vs=>.bool d.1.isSome :: .int .i64 (d.1.getD 0) :: v :: ndV N vs
 | _,_=>[]
theorem ndV_at:∀(N:List Fs.Nd) (vs:List Value) (_:vs.length=N.length) (i:Nat) (h:i<N.length) (h':i<vs.length),(ndV N vs)[i*3]?=some (.bool N[i].1.isSome)∧(ndV N vs)[i*3+1]?=some (.int .i64 (N[i].1.getD 0))∧(ndV N vs)[i*3+2]?=some vs[i]
 | [],_,_,i,h,_=>absurd h (Nat.not_lt_zero _)
 | _ :: _,[],hl,_,_,_=>by cases hl
 | d :: N,v :: vs,hl,i,h,h'=>by
  cases i with
  | zero=>exact ⟨rfl,rfl,rfl⟩
  | succ i=>
   have:=ndV_at N vs (by simpa using hl) i (by simpa using h) (by simpa using h')
   rw [show (i+1)*3=i*3+3 by omega]
   exact this
theorem ndV_snoc:∀(N:List Fs.Nd) (vs:List Value) (_:vs.length=N.length) (d:Fs.Nd) (v:Value),ndV (N++[d]) (vs++[v])=ndV N vs++[.bool d.1.isSome,.int .i64 (d.1.getD 0),v]
 | [],[],_,_,_=>rfl
 | _ :: _,[],hl,_,_=>by cases hl
 | [],_ :: _,hl,_,_=>by cases hl
 | e :: N,u :: vs,hl,d,v=>by
  show Value.bool e.1.isSome :: .int .i64 (e.1.getD 0) :: u :: ndV (N++[d]) (vs++[v])=Value.bool e.1.isSome :: .int .i64 (e.1.getD 0) :: u :: (ndV N vs++_)
  rw [ndV_snoc N vs (by simpa using hl)]
def NodO (w:World) (B:Nat) (v:Value) (N:List Fs.Nd):Prop:=
 ∃vs:List Value,vs.length=N.length∧w.ownsRow B 115 3 v N.length (ndV N vs)∧∀i (h:i<N.length) (h':i<vs.length),OwnY w B vs[i] N[i].2
theorem NodO.nil (w:World) (B:Nat):NodO w B (.slice none 0 0) []:=⟨[],rfl,World.ownsRow_nil _ _ _ _,fun _ h=>absurd h (Nat.not_lt_zero _)⟩
theorem NodO.nods {w:World} {B:Nat} {v:Value} {N:List Fs.Nd} (h:NodO w B v N):NodS w v N:=by
 obtain ⟨vs,hl,ho,hy⟩:=h
 rcases ho.2 with ⟨rfl,h0⟩ | ⟨g,cap,cur,rfl,hg,hh,hnc,hcp,hcs,htake⟩
 ·exact ⟨none,0,by rw [h0],by omega,by omega,fun h=>by omega⟩
 ·have hown:w.ownsRow B 115 3 (.slice (some ⟨g,0,none⟩) N.length cap) N.length (ndV N vs):=ho
  have e:∀j u,(ndV N vs)[j]?=some u→w.cell? ⟨g,j,none⟩=some u:=fun j u hj=>by
   have h:=hown.cells (g:=g) rfl j u hj
   rw [Addr.add_lit,Nat.zero_add] at h
   exact h
  refine ⟨_,cap,rfl,hnc,(by unfold maxLen at hcp;exact hcp),fun _=>⟨g,rfl,(hown.lt g rfl).2,fun i hi=>?_⟩⟩
  obtain ⟨c1,c2,c3⟩:=ndV_at N vs hl i hi (by omega)
  exact ⟨vs[i]'(by omega),(hy i hi (by omega)).ways,e _ _ c1,e _ _ c2,e _ _ c3⟩
end F12
namespace F12
open Go.RowKit Go.Maps
theorem Tryz.infoN:(Tryz.prog.info? 115).map (fun i=>(i.zero,i.size,i.bytes))=some (some (.agg #[.bool false,.int .i64 0,.slice none 0 0]),3,40):=by kernel_rfl
theorem Tryz.infoR:(Tryz.prog.info? 140).map (fun i=>(i.zero,i.size,i.bytes))=some (some (.agg #[.int .i32 0,.int .i32 0]),2,8):=by kernel_rfl
theorem restsN_any (w:World) (d:Fs.Nd) (wv bv:Value) (T:List (List Fs.En)) (hw:WayS w wv d.2) (hl:RstS w bv (T.map Fs.num)) (hws:d.2.length≤256) (hto:∀x∈d.2,x.2.2<T.length) (hT:∀t∈T,¬Fs.Wide t):
  Calls Tryz.prog 70 #[.agg #[.bool d.1.isSome,.int .i64 (d.1.getD 0),wv],bv] w fun e w'=>e=.returned (.agg #[.int .i32 ((Fs.ent T d).length:Nat),.int .i32 (Fs.deep (Fs.ent T d):Nat)])∧Below w.heap.size w w':=by
 have hn:=Fs.ent_num T d
 have h1:∀x∈T.map Fs.num,x.1≤65536∧x.2≤64:=by
  intro x hx
  obtain ⟨t,ht,rfl⟩:=List.mem_map.1 hx
  have:=hT t ht
  unfold Fs.Wide at this
  show t.length≤65536∧Fs.deep t≤64
  omega
 have h2:∀x∈d.2,x.2.2<(T.map Fs.num).length:=by rw [List.length_map];exact hto
 have e1:=congrArg Prod.fst hn
 have e2:=congrArg Prod.snd hn
 obtain ⟨f,ws⟩:=d
 cases f with
 | none=>
  have e3:(Fs.ent T (none,ws)).length=0+Fs.sumT (T.map Fs.num) ws:=e1
  have e4:Fs.deep (Fs.ent T (none,ws))=Fs.maxD (T.map Fs.num) ws:=e2
  rw [e3,e4]
  exact rests_false w 0 wv bv ws _ hw hl hws h2 h1
 | some v=>
  have e3:(Fs.ent T (some v,ws)).length=1+Fs.sumT (T.map Fs.num) ws:=e1
  have e4:Fs.deep (Fs.ent T (some v,ws))=Fs.maxD (T.map Fs.num) ws:=e2
  rw [e3,e4]
  exact rests_true w v wv bv ws _ hw hl hws h2 h1
def KindK (T:List TypeId) (w w':World):Prop:=∀(k:Nat) (c:Array Value) (t:TypeId) (fz:Nat × Nat),w.heap[k]?=some (Obj.cells c t fz)→t∈T→w'.heap[k]?=w.heap[k]?
theorem KindK.trans {T:List TypeId} {w w' w'':World} (h:KindK T w w') (k:KindK T w' w''):KindK T w w'':=fun i c t fz hc ht=>by
 have e:=h i c t fz hc ht
 exact (k i c t fz (e.trans hc) ht).trans e
theorem KindK.less {S T:List TypeId} {w w':World} (h:KindK T w w') (hs:∀t∈S,t∈T):KindK S w w':=fun k c t fz hc ht=>h k c t fz hc (hs t ht)
theorem KindK.of_below {T:List TypeId} {w w':World} (h:Below w.heap.size w w'):KindK T w w':=fun k _ _ _ hc _=>h.block k (Array.getElem?_eq_some_iff.1 hc).1
theorem KindK.of_kt {T:List TypeId} {B:Nat} {w w':World} (h:KeptT T B w w'):KindK T w w':=h.kind
theorem KindK.one {T:List TypeId} {w w':World} {b:Nat} {cs:Array Value} {t0:TypeId} (h:KeptF (fun k=>k=b) w w') (hb:RowT t0 w b cs) (ht:t0∉T):KindK T w w':=fun k c t fz hc htT=>
 h.block k (Array.getElem?_eq_some_iff.1 hc).1 (fun e=>by subst e;exact ht (kind_inj hc hb ▸ htT))
theorem ownsRow_kk {T:List TypeId} {B:Nat} {w w':World} {e:TypeId} {z n:Nat} {v:Value} {xs:List Value} (h:w.ownsRow B e z v n xs) (k:KindK T w w') (he:e∈T):w'.ownsRow B e z v n xs:=
 ownsRow_keep h fun g hg=>by
  obtain ⟨_,_,c,fz,hc⟩:=own_kind h g hg
  exact k g c e fz hc he
theorem RowT.kk {T:List TypeId} {t:TypeId} {w w':World} {b:Nat} {cs:Array Value} (h:RowT t w b cs) (k:KindK T w w') (ht:t∈T):RowT t w' b cs:=h.keep (k b cs t _ h ht)
theorem NodO.kk {T:List TypeId} {B:Nat} {w w':World} {v:Value} {N:List Fs.Nd} (h:NodO w B v N) (k:KindK T w w') (h1:115∈T) (h2:118∈T):NodO w' B v N:=by
 obtain ⟨vs,hl,ho,hy⟩:=h
 exact ⟨vs,hl,ownsRow_kk ho k h1,fun i a b=>ownsRow_kk (hy i a b) k h2⟩
theorem NodO.put {w w5:World} {B g cap:Nat} {wv:Value} {N:List Fs.Nd} {d:Fs.Nd} {vs:List Value} (hl:vs.length=N.length) (hy:∀i (h:i<N.length) (h':i<vs.length),OwnY w B vs[i] N[i].2) (hd:OwnY w B wv d.2)
  (hw:w5.ownsRow B 115 3 (.slice (some ⟨g,0,none⟩) (N.length+1) cap) (N.length+1) (ndV N vs++[.bool d.1.isSome,.int .i64 (d.1.getD 0),wv])) (k:KindK [118] w w5):NodO w5 B (.slice (some ⟨g,0,none⟩) (N.length+1) cap) (N++[d]):=by
 refine ⟨vs++[wv],by rw [List.length_append,List.length_append,hl];rfl,?_,fun i a b=>?_⟩
 ·rw [ndV_snoc N vs hl,List.length_append]
  exact hw
 ·rw [List.length_append] at a
  rcases Nat.lt_or_ge i N.length with q | q
  ·rw [List.getElem_append_left (by omega),List.getElem_append_left q]
   exact ownsRow_kk (hy i q (by omega)) k (by decide)
  ·have hi:i=N.length:=by
    have:[d].length=1:=rfl
    omega
   subst hi
   rw [List.getElem_append_right (by omega),List.getElem_append_right (Nat.le_refl _)]
   simp only [hl,Nat.sub_self,List.getElem_cons_zero]
   exact ownsRow_kk hd k (by decide)
def DicO (B:Nat) (wx:World) (least:Int) (N:List Fs.Nd) (T:List (List Fs.En)) (dv:Value):Prop:=
 (dv=.pointer none∧∃t∈T,t=[])∨∃db nv,dv=.pointer (some ⟨db,0,none⟩)∧B≤db∧RowT 135 wx db #[nv,.int .i64 least,.int .i64 ((T.getLast?.getD []).length:Nat)]∧NodO wx B nv N∧Fs.Rel N T
theorem DicO.kk {S:List TypeId} {B:Nat} {wx w':World} {least:Int} {N:List Fs.Nd} {T:List (List Fs.En)} {dv:Value} (h:DicO B wx least N T dv) (k:KindK S wx w') (h0:135∈S) (h1:115∈S) (h2:118∈S):DicO B w' least N T dv:=by
 rcases h with h | ⟨db,nv,e,hb,hr,hn,hR⟩
 ·exact .inl h
 ·exact .inr ⟨db,nv,e,hb,hr.kk k h0,hn.kk k h1 h2,hR⟩
theorem DicO.none_snoc {B:Nat} {wx w':World} {least:Int} {N N':List Fs.Nd} {T:List (List Fs.En)} {t:List Fs.En} (h:DicO B wx least N T (.pointer none)):DicO B w' least N' (T++[t]) (.pointer none):=by
 rcases h with ⟨_,t',h1,h2⟩ | ⟨_,_,e,_⟩
 ·exact .inl ⟨rfl,t',List.mem_append_left _ h1,h2⟩
 ·cases e
theorem DicO.none_of {B:Nat} {w':World} {least:Int} {N':List Fs.Nd} {T:List (List Fs.En)} {t:List Fs.En} (h:t=[]):DicO B w' least N' (T++[t]) (.pointer none):=.inl ⟨rfl,t,by simp,h⟩
structure RdS (w wx:World) (b:Nat) (s:List UInt8) (least:Int) (N:List Fs.Nd) (T:List (List Fs.En)) (bv dv:Value):Prop where
 cur:CurT wx b s
 kept:KeptF (fun k=>k=b) w wx
 lt:b<w.heap.size
 rst:OwnR wx w.heap.size bv (T.map Fs.num)
 dic:DicO w.heap.size wx least N T dv
section
variable {w wx:World} {b:Nat} {s:List UInt8} {least:Int} {N:List Fs.Nd} {T:List (List Fs.En)} {bv dv:Value}
theorem RdS.turn {w1:World} {s':List UInt8} (h:RdS w wx b s least N T bv dv) (k:KeptF (fun k=>k=b) wx w1) (hc:CurT w1 b s'):RdS w w1 b s' least N T bv dv:=by
 have kk:KindK [135,115,118,140] wx w1:=KindK.one k h.cur (by decide)
 exact ⟨hc,h.kept.trans k,h.lt,ownsRow_kk h.rst kk (by decide),h.dic.kk kk (by decide) (by decide) (by decide)⟩
theorem RdS.below {w':World} (h:RdS w wx b s least N T bv dv) (k:Below wx.heap.size wx w'):RdS w w' b s least N T bv dv:=
 h.turn (KeptF.of_below k) (RowT.keep h.cur (k.block _ (RowT.lt h.cur)))
theorem RdS.size (h:RdS w wx b s least N T bv dv):w.heap.size≤wx.heap.size:=h.kept.size
theorem RdS.push {w5:World} {g cap n:Nat} {t:List Fs.En} (h:RdS w wx b s least N T bv dv) (hn:n=T.length)
  (hown:w5.ownsRow w.heap.size 140 2 (.slice (some ⟨g,0,none⟩) (n+1) cap) (n+1) (rsV (T.map Fs.num)++[.int .i32 (t.length:Nat),.int .i32 (Fs.deep t:Nat)])) (hg:Grew wx w5 bv (.slice (some ⟨g,0,none⟩) (n+1) cap)):
  CurT w5 b s∧KeptF (fun k=>k=b) w w5∧OwnR w5 w.heap.size (.slice (some ⟨g,0,none⟩) (n+1) cap) ((T++[t]).map Fs.num)∧DicO w.heap.size w5 least N T dv∧KindK [135,115,118] wx w5:=by
 subst hn
 have kt:KeptT [135,115,118,130] w.heap.size wx w5:=hg.keptT h.rst (by decide)
 have hs:=h.kept.size
 refine ⟨RowT.kk h.cur (KindK.of_kt kt) (by decide),⟨kt.os.trans h.kept.os,kt.tape.trans h.kept.tape,kt.output.trans h.kept.output,Nat.le_trans hs kt.size,fun k hk hf=>(kt.old k hk (by omega)).trans (h.kept.block k hk hf)⟩,?_,h.dic.kk (KindK.of_kt kt) (by decide) (by decide) (by decide),(KindK.of_kt kt).less (by decide)⟩
 ·unfold OwnR
  have e:rsV ((T++[t]).map Fs.num)=rsV (T.map Fs.num)++[.int .i32 (t.length:Nat),.int .i32 (Fs.deep t:Nat)]:=by
   unfold rsV
   rw [List.map_append,List.flatMap_append]
   rfl
  rw [e,List.length_map,List.length_append]
  exact hown
theorem RdS.put {w5 w6:World} {db g cap:Nat} {c nv wv:Value} {vs:List Value} {d:Fs.Nd} {t:List Fs.En} (hcur:CurT w5 b s) (hk:KeptF (fun k=>k=b) w w5) (hlt:b<w.heap.size) (hr:OwnR w5 w.heap.size bv ((T++[t]).map Fs.num)) (hrow:RowT 135 w5 db #[nv,.int .i64 least,c]) (hB:w.heap.size≤db)
  (hl:vs.length=N.length) (ho:w5.ownsRow w.heap.size 115 3 nv N.length (ndV N vs)) (hy:∀i (h:i<N.length) (h':i<vs.length),OwnY w5 w.heap.size vs[i] N[i].2) (hR:Fs.Rel N T) (hd:OwnY w5 w.heap.size wv d.2) (hto:∀x∈d.2,x.2.2<N.length) (hw:¬Fs.Wide t) (hf:t≠[]) (ht:t=Fs.ent T d)
  (hown:w6.ownsRow w.heap.size 115 3 (.slice (some ⟨g,0,none⟩) (N.length+1) cap) (N.length+1) (ndV N vs++[.bool d.1.isSome,.int .i64 (d.1.getD 0),wv])) (hg:Grew w5 w6 nv (.slice (some ⟨g,0,none⟩) (N.length+1) cap)):
  (w6.cell? ⟨db,0,none⟩=some nv∧w6.frozen? ⟨db,0,none⟩=false∧(w6.setCell ⟨db,0,none⟩ (.slice (some ⟨g,0,none⟩) (N.length+1) cap)).cell? ⟨db,2,none⟩=some c∧(w6.setCell ⟨db,0,none⟩ (.slice (some ⟨g,0,none⟩) (N.length+1) cap)).frozen? ⟨db,2,none⟩=false) ∧
  RdS w ((w6.setCell ⟨db,0,none⟩ (.slice (some ⟨g,0,none⟩) (N.length+1) cap)).setCell ⟨db,2,none⟩ (.int .i64 (t.length:Nat))) b s least (N++[d]) (T++[t]) bv (.pointer (some ⟨db,0,none⟩)):=by
 subst ht
 have kt:KeptT [135,118,130,140] w.heap.size w5 w6:=hg.keptT ho (by decide)
 have k6:=KindK.of_kt kt
 have r6:RowT 135 w6 db #[nv,.int .i64 least,c]:=hrow.kk k6 (by decide)
 have r7:RowT 135 (w6.setCell ⟨db,0,none⟩ (.slice (some ⟨g,0,none⟩) (N.length+1) cap)) db #[.slice (some ⟨g,0,none⟩) (N.length+1) cap,.int .i64 least,c]:=r6.set 0 _
 have r8:RowT 135 ((w6.setCell ⟨db,0,none⟩ (.slice (some ⟨g,0,none⟩) (N.length+1) cap)).setCell ⟨db,2,none⟩ (.int .i64 ((Fs.ent T d).length:Nat))) db #[.slice (some ⟨g,0,none⟩) (N.length+1) cap,.int .i64 least,.int .i64 ((Fs.ent T d).length:Nat)]:=r7.set 2 _
 have kf:KeptF (fun k=>k=db) w6 ((w6.setCell ⟨db,0,none⟩ (.slice (some ⟨g,0,none⟩) (N.length+1) cap)).setCell ⟨db,2,none⟩ (.int .i64 ((Fs.ent T d).length:Nat))):=KeptF.set (F:=fun k=>k=db) (KeptF.set (F:=fun k=>k=db) (KeptF.refl _ _) db 0 rfl _) db 2 rfl _
 have k8:KindK [115,118,130,140] w6 _:=KindK.one kf r6 (by decide)
 have k58:=(k6.less (S:=[118,130,140]) (by decide)).trans (k8.less (by decide))
 have hsz:=kt.size
 refine ⟨⟨r6.cell 0,r6.frozen 0,r7.cell 2,r7.frozen 2⟩,RowT.kk hcur k58 (by decide),⟨?_,?_,?_,?_,fun k h1 h2=>?_⟩,hlt,ownsRow_kk hr k58 (by decide),.inr ⟨db,.slice (some ⟨g,0,none⟩) (N.length+1) cap,rfl,hB,?_,?_,hR.snoc hto hw hf⟩⟩
 ·exact kf.os.trans (kt.os.trans hk.os)
 ·exact kf.tape.trans (kt.tape.trans hk.tape)
 ·exact kf.output.trans (kt.output.trans hk.output)
 ·exact Nat.le_trans hk.size (Nat.le_trans hsz kf.size)
 ·have h3:=hk.size
  rw [kf.block k (by omega) (by omega),kt.old k h1 (by omega)]
  exact hk.block k h1 h2
 ·rw [List.getLast?_append]
  exact r8
 ·exact NodO.put hl (fun i a b=>ownsRow_kk (hy i a b) k58 (by decide)) (ownsRow_kk hd k58 (by decide)) (ownsRow_kk hown k8 (by decide)) (fun _ _ _ _ _ _=>rfl)
end
def ReadPost (w:World) (b:Nat) (R:Int × (List Fs.Nd × List (List Fs.En)) × List UInt8) (least:Int) (e:Ending) (w':World):Prop:=
 KeptF (fun k=>k=b) w w'∧((R.1≠0∧e=.returned (.tuple #[.pointer none,.int .i64 R.1]))∨(R.1=0∧∃dv,e=.returned (.tuple #[dv,.int .i64 0])∧CurT w' b R.2.2∧DicO w.heap.size w' least R.2.1.1 R.2.1.2 dv))
end F12
end Go.Proofs.YtmdefnbpimfbgaaGreatDoor

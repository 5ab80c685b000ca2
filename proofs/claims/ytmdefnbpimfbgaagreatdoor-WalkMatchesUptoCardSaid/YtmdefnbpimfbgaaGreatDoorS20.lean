/-
  Lemmas on automata, dictionaries and the walk over them, the program's calls and the given ones.
-/
import Derived.Test.YtmdefnbpimfbgaaGreatDoorS15
import Derived.Test.YtmdefnbpimfbgaaGreatDoorS19
set_option maxRecDepth 100000
set_option maxHeartbeats 16000000
namespace Go.Proofs.YtmdefnbpimfbgaaGreatDoor
namespace F12
open Go.RowKit Go.Maps
structure Told (P:Program) (w0:World) (fy:FuncId) (Cy:Array Value) {σ:Type} (y:σ→Fs.En→σ × Bool) (cnt:σ→Nat) (J:World→σ→Prop):Prop where
 less:∀s e,cnt (y s e).1≤cnt s+1
 ey:∀args w,(callFunc fy args).run P w=.ok (.enter fy args) w
 jkeep:∀W W' s,J W s→KeptT Wk.TJ w0.heap.size W W'→J W' s
 yield:∀W s t o,cnt s<65536→J W s→Below w0.heap.size w0 W→Calls P fy (#[.agg #[.string (bs t),.int .i64 o]]++Cy) W fun e w'=>e=.returned (.bool (y s (t,o)).2)∧J w' (y s (t,o)).1∧Below w0.heap.size w0 w'∧KeptT (5 :: Wk.TW) w0.heap.size W w'
theorem from_mach {σ:Type} {w0:World} {fy:FuncId} {Cy:Array Value} {y:σ→Fs.En→σ × Bool} {cnt:σ→Nat} {J:World→σ→Prop} (ht:Told Tryz.prog w0 fy Cy y cnt J) (s:List UInt8) (hs:s.length≤9223372036854775806) (sb:Nat):
  Mach Tryz.prog w0 23 25 fy #[.pointer (some ⟨sb,0,none⟩)] #[.pointer (some ⟨sb,0,none⟩)] Cy (Wk.stpF s) (Wk.finF s) y cnt (Wk.okF s) (fun W=>RowT 9 W sb #[.string (bs s)]) J where
 es:=enters_of Tryz.func23 (by kernel_rfl) rfl
 ef:=enters_of Tryz.func25 (by kernel_rfl) rfl
 ey:=ht.ey
 ikeep:=fun W W' h k=>h.keep (k.kind _ _ _ _ h (by decide))
 jkeep:=ht.jkeep
 less:=ht.less
 next:=fun q c h=>Wk.stpF_ok c h
 step:=fun W q c h _ hq=>(fromStep_any W sb s q c hq hs h).mono fun e w' ⟨h1,h2⟩=>⟨h1,by rw [←h2];exact Below.refl _ _⟩
 final:=fun W q h _ _=>(fromFinal_any W sb s q h).mono fun e w' ⟨h1,h2⟩=>⟨h1,h2.symm⟩
 yield:=ht.yield
theorem func_nilIn (w:World) (d:Nat) (F:Fn) (A C:Array Value):(Op.equalIn (d+1) 30 (.func F A C) .nilFunc).run Tryz.prog w=.ok false w:=by
 simp [Op.equalIn,run_underlying Tryz.underlying30]
theorem func_nil (w:World) (F:Fn) (A C:Array Value):(binOp .eql 30 (.func F A C) .nilFunc).run Tryz.prog w=.ok (.bool false) w:=by
 simp only [binOp]
 simp [Op.equal,Op.maxDepth,func_nilIn w 9999]
theorem from_any {σ:Type} (w0 w:World) (dv:Value) (l:List Fs.En) (hd:Dt w0 dv l) (s:List UInt8) (hs:s.length≤9223372036854775806) (fy:FuncId) (Cy:Array Value) (y:σ→Fs.En→σ × Bool) (cnt:σ→Nat) (J:World→σ→Prop) (ht:Told Tryz.prog w0 fy Cy y cnt J) (s0:σ) (hcnt:cnt s0+l.length≤65536) (hb:Below w0.heap.size w0 w) (hJ:J w s0):
  Calls Tryz.prog 10 #[dv,.string (bs s),.func (.func fy) #[] Cy] w fun e w'=>e=.returned (.tuple #[])∧J w' (Wk.feed y s0 (l.filter fun e=>!Fs.lt e.1 s)).1∧Below w0.heap.size w0 w':=by
 have hb1:=hb.alloc hb.size (.cells #[.string (bs s)] 9)
 have hb2:=hb1.alloc hb1.size (.cells #[dv,.func (.func 23) #[] #[.pointer (some ⟨w.heap.size,0,none⟩)],.func (.func 25) #[] #[.pointer (some ⟨w.heap.size,0,none⟩)],.func (.func fy) #[] Cy] 56)
 have r1:RowT 9 (w.alloc (.cells #[.string (bs s)] 9)) w.heap.size #[.string (bs s)]:=Go.Deep.blk_alloc_new _ _
 have b1:Below w.heap.size w (w.alloc (.cells #[.string (bs s)] 9)):=(Below.refl _ _).alloc (Nat.le_refl _) _
 have b2:=b1.alloc b1.size (.cells #[dv,.func (.func 23) #[] #[.pointer (some ⟨w.heap.size,0,none⟩)],.func (.func 25) #[] #[.pointer (some ⟨w.heap.size,0,none⟩)],.func (.func fy) #[] Cy] 56)
 have r2:RowT 56 ((w.alloc (.cells #[.string (bs s)] 9)).alloc (.cells #[dv,.func (.func 23) #[] #[.pointer (some ⟨w.heap.size,0,none⟩)],.func (.func 25) #[] #[.pointer (some ⟨w.heap.size,0,none⟩)],.func (.func fy) #[] Cy] 56)) (w.heap.size+1) #[dv,.func (.func 23) #[] #[.pointer (some ⟨w.heap.size,0,none⟩)],.func (.func 25) #[] #[.pointer (some ⟨w.heap.size,0,none⟩)],.func (.func fy) #[] Cy]:=by
  show _=_
  rw [show w.heap.size+1=(w.alloc (.cells #[.string (bs s)] 9)).heap.size from (World.size_alloc _ _).symm]
  exact Go.Deep.blk_alloc_new _ _
 have HQ:=lh (course_any w0 _ (w.heap.size+1) dv l hd _ _ fy _ _ Cy _ _ y cnt _ _ J (from_mach ht s hs w.heap.size) ⟨Int.le_refl _,by omega⟩ s0 hcnt ⟨r2,r1.keep (Go.Deep.blk_alloc_lt _ _ _ r1.lt),ht.jkeep _ _ _ hJ (KeptT.of_below b2),hb2⟩)
 rw [Wk.sel_from] at HQ
 obtain ⟨rr,hrr⟩:∃rr,rr=(Wk.feed y s0 (l.filter fun e=>!Fs.lt e.1 s)).1:=⟨_,rfl⟩
 rw [←hrr] at HQ ⊢
 obtain ⟨p,rfl⟩:=hd.form
 clear hcnt hrr r1 r2 b1 b2 hb1 hb2 hJ hb ht hd
 generalize bs s=S at *
 have hfn:=fun W=>func_nil W (.func fy) #[] Cy
 have hsf:∀(a:Addr) (F:Fn) (T:Array Value) (C:Array Value) (m:Mode) (w:World),(store a (.func F T C) m).run Tryz.prog w=stored Tryz.prog w a (.func F T C) m:=fun a F T C m w=>run_store Tryz.prog w a (.func F T C) m rfl
 go_enter Tryz.func10,Tryz.ntmps10
 go_wp2_with (go_at_call 26;go_loud ((refine HQ.out.mono ?_;rintro e1 w1 ⟨rfl,hj1,hb1⟩;have HJ1:=lh (And.intro hj1 hb1);clear hj1 hb1)))
 go_end0
 exact ⟨rfl,HJ1.out⟩
def entC:Option Fs.En→Array Value
 | some e=>#[.string (bs e.1),.int .i64 e.2]
 | none=>#[.string ByteArray.empty,.int .i64 0]
def CeilJ (fb tb:Nat) (W:World) (o:Option Fs.En):Prop:=RowT 29 W fb (entC o)∧RowT 4 W tb #[.bool o.isSome]
theorem ceilTold_any (W:World) (fb tb:Nat) (o:Option Fs.En) (t:List UInt8) (x:Int) (h:CeilJ fb tb W o):
  Calls Tryz.prog 27 #[.agg #[.string (bs t),.int .i64 x],.pointer (some ⟨fb,0,none⟩),.pointer (some ⟨tb,0,none⟩)] W fun e w'=>e=.returned (.bool false)∧w'=(((W.alloc (.cells #[.string (bs t),.int .i64 x] 29)).setCell ⟨fb,0,none⟩ (.string (bs t))).setCell ⟨fb,1,none⟩ (.int .i64 x)).setCell ⟨tb,0,none⟩ (.bool true):=by
 obtain ⟨c1,c2,hC⟩:∃c1 c2,entC o=#[c1,c2]:=by cases o <;> exact ⟨_,_,rfl⟩
 have h1:RowT 29 W fb #[c1,c2]:=hC ▸ h.1
 have h2:=h.2
 have hne:fb≠tb:=fun e=>by
  subst e
  have:=kind_inj h1 h2
  revert this
  decide
 have hb:=(Below.refl W.heap.size W).alloc (Nat.le_refl _) (.cells #[.string (bs t),.int .i64 x] 29)
 have r1:=h1.keep (hb.block _ h1.lt)
 have r2:=h2.keep (hb.block _ h2.lt)
 have r3:RowT 29 (W.alloc (.cells #[.string (bs t),.int .i64 x] 29)) W.heap.size #[.string (bs t),.int .i64 x]:=Go.Deep.blk_alloc_new _ _
 generalize bs t=T at *
 have a1:=r1.cell 0
 have a2:=r1.frozen 0
 have a3:=r3.cell 0
 have a4:=r3.cell 1
 have b0:RowT 29 ((W.alloc (.cells #[.string T,.int .i64 x] 29)).setCell ⟨fb,0,none⟩ (.string T)) fb #[.string T,c2]:=r1.set 0 _
 have b1:=b0.cell 1
 have b2:=b0.frozen 1
 have d0:=(r2.keep (heap_other (W.alloc (.cells #[.string T,.int .i64 x] 29)) fb 0 tb (.string T) (by omega))).keep (heap_other ((W.alloc (.cells #[.string T,.int .i64 x] 29)).setCell ⟨fb,0,none⟩ (.string T)) fb 1 tb (.int .i64 x) (by omega))
 have d1:=d0.cell 0
 have d2:=d0.frozen 0
 clear h h1 h2 hC hb r1 r2 r3 b0 d0
 go_enter Tryz.func27,Tryz.ntmps27
 go_wp2_with fail
 go_ret
 exact ⟨rfl,rfl⟩
end F12
namespace F12
open Go.RowKit Go.Maps
theorem ceil_told (w0:World) (fb tb:Nat) (hf:w0.heap.size≤fb) (ht:w0.heap.size≤tb):Told Tryz.prog w0 27 #[.pointer (some ⟨fb,0,none⟩),.pointer (some ⟨tb,0,none⟩)] (fun (_:Option Fs.En) e=>(some e,false)) (fun _=>0) (CeilJ fb tb) where
 less:=fun _ _=>Nat.zero_le _
 ey:=enters_of Tryz.func27 (by kernel_rfl) rfl
 jkeep:=fun W W' s h k=>⟨h.1.keep (k.kind _ _ _ _ h.1 (by decide)),h.2.keep (k.kind _ _ _ _ h.2 (by decide))⟩
 yield:=fun W o t x _ h hb=>by
  refine (ceilTold_any W fb tb o t x h).mono ?_
  rintro e w' ⟨rfl,rfl⟩
  obtain ⟨c1,c2,hC⟩:∃c1 c2,entC o=#[c1,c2]:=by cases o <;> exact ⟨_,_,rfl⟩
  have h1:RowT 29 W fb #[c1,c2]:=hC ▸ h.1
  have h2:=h.2
  have hne:fb≠tb:=fun e=>by
   subst e
   have:=kind_inj h1 h2
   revert this
   decide
  have hba:=(Below.refl W.heap.size W).alloc (Nat.le_refl _) (.cells #[.string (bs t),.int .i64 x] 29)
  have r1:=h1.keep (hba.block _ h1.lt)
  have r2:=h2.keep (hba.block _ h2.lt)
  have k0:KeptT (5 :: Wk.TW) w0.heap.size W (W.alloc (.cells #[.string (bs t),.int .i64 x] 29)):=KeptT.of_below hba
  generalize W.alloc (.cells #[.string (bs t),.int .i64 x] 29)=W1 at *
  have s1:=r1.set 0 (.string (bs t))
  have s2:=r2.keep (heap_other W1 fb 0 tb (.string (bs t)) (by omega))
  have k1:KeptT (5 :: Wk.TW) w0.heap.size W1 (W1.setCell ⟨fb,0,none⟩ (.string (bs t))):=KeptT.set fb 0 _ hf fun c ty fz hc=>by
   rw [kind_inj hc r1]
   decide
  generalize W1.setCell ⟨fb,0,none⟩ (.string (bs t))=W2 at *
  have u1:=s1.set 1 (.int .i64 x)
  have u2:=s2.keep (heap_other W2 fb 1 tb (.int .i64 x) (by omega))
  have k2:KeptT (5 :: Wk.TW) w0.heap.size W2 (W2.setCell ⟨fb,1,none⟩ (.int .i64 x)):=KeptT.set fb 1 _ hf fun c ty fz hc=>by
   rw [kind_inj hc s1]
   decide
  generalize W2.setCell ⟨fb,1,none⟩ (.int .i64 x)=W3 at *
  have v2:=u2.set 0 (.bool true)
  have v1:=u1.keep (heap_other W3 tb 0 fb (.bool true) (by omega))
  have k3:KeptT (5 :: Wk.TW) w0.heap.size W3 (W3.setCell ⟨tb,0,none⟩ (.bool true)):=KeptT.set tb 0 _ ht fun c ty fz hc=>by
   rw [kind_inj hc u2]
   decide
  have kk:=k0.trans (k1.trans (k2.trans k3))
  exact ⟨rfl,⟨v1,v2⟩,kk.below hb hb.size,kk⟩
theorem aggE (w:World):(isAgg 29).run Tryz.prog w=.ok true w:=by kernel_rfl
theorem sizeE (w:World):(sizeOf 29).run Tryz.prog w=.ok 2 w:=by kernel_rfl
theorem loadE (w:World) (b:Nat) (c0 c1:Value) (h:RowT 29 w b #[c0,c1]):(loadVar 29 ⟨b,0,none⟩).run Tryz.prog w=.ok (.agg #[c0,c1]) w:=by
 unfold loadVar
 rw [Sem.run_bind,aggE]
 simp only [Result.andThen_ok,if_true,Sem.run_bind,sizeE]
 have h:=run_loadCells_list (P:=Tryz.prog) w ⟨b,0,none⟩ [c0,c1] (fun j v hj=>by
  match j,hj with
  | 0,hj=>simp at hj;subst hj;simpa [Addr.add] using h.cell 0
  | 1,hj=>simp at hj;subst hj;simpa [Addr.add] using h.cell 1)
 rw [show [c0,c1].length=2 from rfl] at h
 rw [h]
 rfl
theorem feed_ceil (M:List Fs.En):(Wk.feed (fun (_:Option Fs.En) e=>(some e,false)) none M).1=M.head?:=by cases M <;> rfl
theorem ceil_any (w:World) (dv:Value) (l:List Fs.En) (hd:Dt w dv l) (s:List UInt8) (hs:s.length≤9223372036854775806):
  Calls Tryz.prog 12 #[dv,.string (bs s)] w fun e w'=>e=.returned (.tuple #[.agg (entC (l.filter fun e=>!Fs.lt e.1 s).head?),.bool (l.filter fun e=>!Fs.lt e.1 s).head?.isSome])∧Below w.heap.size w w':=by
 have hb0:Below w.heap.size w (w.alloc (.cells #[.string ByteArray.empty,.int .i64 0] 29)):=(Below.refl _ _).alloc (Nat.le_refl _) _
 have e0:(w.alloc (.cells #[.string ByteArray.empty,.int .i64 0] 29)).heap.size=w.heap.size+1:=World.size_alloc _ _
 have r0:RowT 29 (w.alloc (.cells #[.string ByteArray.empty,.int .i64 0] 29)) w.heap.size #[.string ByteArray.empty,.int .i64 0]:=Go.Deep.blk_alloc_new _ _
 have hd0:=hd.below hb0
 obtain ⟨W0,hW0⟩:∃W0,W0=w.alloc (.cells #[.string ByteArray.empty,.int .i64 0] 29):=⟨_,rfl⟩
 rw [←hW0] at hb0 e0 r0 hd0
 have e1:(W0.alloc (.cells #[.string ByteArray.empty,.int .i64 0] 29)).heap.size=w.heap.size+1+1:=by rw [World.size_alloc,e0]
 have r1:RowT 29 (W0.alloc (.cells #[.string ByteArray.empty,.int .i64 0] 29)) (w.heap.size+1) #[.string ByteArray.empty,.int .i64 0]:=by
  show _=_
  rw [←e0]
  exact Go.Deep.blk_alloc_new _ _
 have b1:Below W0.heap.size W0 (W0.alloc (.cells #[.string ByteArray.empty,.int .i64 0] 29)):=(Below.refl _ _).alloc (Nat.le_refl _) _
 obtain ⟨W1,hW1⟩:∃W1,W1=W0.alloc (.cells #[.string ByteArray.empty,.int .i64 0] 29):=⟨_,rfl⟩
 rw [←hW1] at e1 r1 b1
 have r2:RowT 4 (W1.alloc (.cells #[.bool false] 4)) (w.heap.size+1+1) #[.bool false]:=by
  show _=_
  rw [←e1]
  exact Go.Deep.blk_alloc_new _ _
 have b2:=b1.alloc b1.size (.cells #[.bool false] 4)
 have r3:RowT 29 (W1.alloc (.cells #[.bool false] 4)) (w.heap.size+1) #[.string ByteArray.empty,.int .i64 0]:=r1.keep (Go.Deep.blk_alloc_lt _ _ _ (by omega))
 have HQ:=lh (from_any W0 _ dv l hd0 s hs _ _ _ _ _ (ceil_told W0 (w.heap.size+1) (w.heap.size+1+1) (by omega) (by omega)) none (by have:=hd.few;omega) b2 ⟨r3,r2⟩)
 rw [feed_ceil] at HQ
 obtain ⟨p,rfl⟩:=hd.form
 obtain ⟨o,ho⟩:∃o,o=(l.filter fun e=>!Fs.lt e.1 s).head?:=⟨_,rfl⟩
 rw [←ho] at HQ ⊢
 obtain ⟨T,x,hC⟩:∃T x,entC o=#[.string T,.int .i64 x]:=by cases o <;> exact ⟨_,_,rfl⟩
 rw [hC]
 have HFA:Hid (∀w1,CeilJ (w.heap.size+1) (w.heap.size+1+1) w1 o→Below W0.heap.size W0 w1→RowT 29 w1 w.heap.size #[.string ByteArray.empty,.int .i64 0]∧RowT 29 w1 (w.heap.size+1) #[.string T,.int .i64 x]∧RowT 4 w1 (w.heap.size+1+1) #[.bool o.isSome]∧Below w.heap.size w w1):=fun w1 hj hb=>⟨r0.keep (hb.block _ (by omega)),hC ▸ hj.1,hj.2,hb0.trans (hb.mono (by omega))⟩
 generalize bs s=S at *
 subst hW1 hW0
 clear ho hd hd0 hb0 e0 r0 e1 r1 b1 r2 b2 r3 hC
 generalize o.isSome=bo at *
 go_enter Tryz.func12,Tryz.ntmps12
 go_wp2_with (go_at_call 10;go_loud ((refine HQ.out.mono ?_;rintro e1 w1 ⟨rfl,hj1,hb1⟩;obtain ⟨q0,q1,q2,hbb⟩:=HFA.out w1 hj1 hb1;have m0:=q1.cell 0;have m1:=q1.cell 1;have m2:=q2.cell 0;have HB1:=lh hbb;have HQ0:=lh q0;clear hj1 hb1 q1 q2 hbb q0)))
 have f0:=HQ0.out.frozen 0
 have p0:=HQ0.out.cell 0
 have f1:=HQ0.out.frozen 1
 have p1:=HQ0.out.cell 1
 have HG1:=lh ((HQ0.out.set 0 (.string T)).set 1 (.int .i64 x))
 have HB2:Hid (Below w.heap.size w ((w1.setCell ⟨w.heap.size,0,none⟩ (.string T)).setCell ⟨w.heap.size,1,none⟩ (.int .i64 x))):=(HB1.out.setCell (p:=⟨w.heap.size,0,none⟩) (Nat.le_refl _) _).setCell (p:=⟨w.heap.size,1,none⟩) (Nat.le_refl _) _
 clear HQ0 HQ HFA
 go_region
 all_goals go_wp2_with fail
 all_goals refine bodyPost_ret (results_cell_tmp rfl _ _ ⟨w.heap.size,0,none⟩ (.agg #[.string T,.int .i64 x]) rfl (loadE _ _ _ _ HG1.out)) rfl ?_
 all_goals exact ⟨rfl,HB2.out.drew⟩
end F12
namespace F12
open Go.RowKit Go.Maps
namespace Wk
def stpA (d:List Au.St) (q:Int) (c:UInt8):Int:=Au.step d q (c.toNat:Nat)
def finA (d:List Au.St) (q:Int):Bool:=match d[q.toNat]? with
 | some s=>s.fin
 | none=>false
def okA (d:List Au.St) (q:Int):Prop:=0≤q∧q<(d.length:Int)
theorem stpA_code {d:List Au.St} (h:Au.Fits d) (k:Nat) (c:UInt8):stpA d (k:Int) c=Au.code ((Au.ofL d).step k c.toNat):=Au.step_code h (some k) c.toNat
theorem ofL_at {d:List Au.St} (h:Au.Fits d) {k c j:Nat} (e:(Au.ofL d).step k c=some j):j<d.length:=Au.ofL_in h.row e
theorem stpA_ok {d:List Au.St} (h:Au.Fits d) (q:Int) (c:UInt8) (hq:okA d q):stpA d q c = -1∨okA d (stpA d q c):=by
 obtain ⟨k,rfl⟩:∃k:Nat,(k:Int)=q:=⟨q.toNat,Int.toNat_of_nonneg hq.1⟩
 rw [stpA_code h]
 cases e:(Au.ofL d).step k c.toNat with
 | none=>left;rfl
 | some j=>
  have:=ofL_at h e
  right
  exact ⟨by show (0:Int)≤(j:Int);omega,by show (j:Int)<_;omega⟩
theorem okA_acc {d:List Au.St} (h:Au.Fits d):∀(t:List UInt8) (k:Nat),k<d.length→ok (stpA d) (finA d) (k:Int) t=(Au.ofL d).acc (some k) (t.map UInt8.toNat)
 | [],k,hk=>by
  show finA d (k:Int)=(Au.ofL d).fin k
  unfold finA Au.ofL
  rw [Int.toNat_natCast]
  dsimp only
  cases d[k]? <;> rfl
 | c :: t,k,hk=>by
  rw [List.map_cons,Au.acc_step]
  show (if stpA d (k:Int) c = -1 then false else ok (stpA d) (finA d) (stpA d (k:Int) c) t)=Au.Auto.acc _ ((Au.ofL d).step k c.toNat) _
  rw [stpA_code h]
  cases e:(Au.ofL d).step k c.toNat with
  | none=>
   rw [Au.acc_none]
   rfl
  | some j=>
   have hj:=ofL_at h e
   show (if (j:Int) = -1 then false else ok (stpA d) (finA d) (j:Int) t)=_
   rw [if_neg (by omega)]
   exact okA_acc h t j hj
theorem okA_takes {d:List Au.St} (h:Au.Fits d) (t:List UInt8):ok (stpA d) (finA d) 0 t=Au.takesL d t:=by
 unfold Au.takesL
 simp only [h,decide_true,Bool.true_and]
 exact okA_acc h t 0 h.pos
def yM (most:Int) (s:List Fs.En × Bool) (e:Fs.En):(List Fs.En × Bool) × Bool:=if most≤(s.1.length:Int) then ((s.1,true),false) else ((s.1++[e],false),true)
theorem feed_match (most:Int):∀(M L:List Fs.En),L.length≤most.toNat→(feed (yM most) (L,false) M).1=(L++M.take (most.toNat-L.length),decide (most.toNat<L.length+M.length))
 | [],L,h=>by
  show (L,false)=_
  rw [List.take_nil,List.append_nil,decide_eq_false (by simp;omega)]
 | e :: M,L,h=>by
  show (if (yM most (L,false) e).2=true then feed (yM most) (yM most (L,false) e).1 M else ((yM most (L,false) e).1,false)).1=_
  unfold yM
  by_cases h1:most≤(L.length:Int)
  ·rw [if_pos h1]
   show (L,true)=_
   rw [show most.toNat-L.length=0 by omega,List.take_zero,List.append_nil,decide_eq_true (by simp only [List.length_cons];omega)]
  ·rw [if_neg h1,if_pos rfl]
   show (feed (yM most) (L++[e],false) M).1=_
   rw [feed_match most M (L++[e]) (by rw [List.length_append,List.length_singleton];omega),List.length_append,List.length_singleton,List.append_assoc,List.length_cons,show most.toNat-L.length=(most.toNat-(L.length+1))+1 by omega,List.take_succ_cons,show L.length+1+M.length=L.length+(M.length+1) by omega]
   rfl
noncomputable def mat (l:List Fs.En) (d:List Au.St):List Fs.En:=l.filter fun e=>Au.takesL d e.1
theorem mat_bad {l:List Fs.En} {d:List Au.St} (h:¬Au.Fits d):mat l d=[]:=by
 unfold mat
 rw [List.filter_eq_nil_iff]
 intro e _ q
 unfold Au.takesL at q
 simp [h] at q
theorem mat_ok {l:List Fs.En} {d:List Au.St} (h:Au.Fits d):(l.filter fun e=>ok (stpA d) (finA d) 0 e.1)=mat l d:=List.filter_congr fun e _=>okA_takes h e.1
end Wk
theorem matchStep_any (F:Nat→Prop) (W:World) (ab:Nat) (av:Value) (d:List Au.St) (q:Int) (c:UInt8) (h:RowT 35 W ab #[av]) (hv:StS F W av d):
  Calls Tryz.prog 30 #[.int .i64 q,.int .u8 (c.toNat:Nat),.pointer (some ⟨ab,0,none⟩)] W fun e w'=>e=.returned (.int .i64 (Wk.stpA d q c))∧Below W.heap.size W w':=by
 have H:=lh (stepP_any F W av d q c.toNat c.toNat_lt hv)
 have c0:W.cell? ⟨ab,0,none⟩=some av:=h.cell 0
 obtain ⟨a,cap,rfl,-⟩:=hv
 clear h
 go_enter Tryz.func30,Tryz.ntmps30
 go_wp2_with (go_at_call 31;refine H.out.mono ?_;rintro e1 w1 ⟨rfl,hb1⟩;have HB1:=lh hb1;clear hb1)
 go_ret
 exact ⟨rfl,HB1.out⟩
theorem matchFinal_any (F:Nat→Prop) (W:World) (ab:Nat) (av:Value) (d:List Au.St) (q:Int) (hq:Wk.okA d q) (h:RowT 35 W ab #[av]) (hv:StS F W av d):
  Calls Tryz.prog 32 #[.int .i64 q,.pointer (some ⟨ab,0,none⟩)] W fun e w'=>e=.returned (.bool (Wk.finA d q))∧w'=W:=by
 obtain ⟨k,rfl⟩:∃k:Nat,(k:Int)=q:=⟨q.toNat,Int.toNat_of_nonneg hq.1⟩
 have hk:k<d.length:=by have:=hq.2;omega
 have hf:Wk.finA d (k:Int)=d[k].fin:=by
  unfold Wk.finA
  rw [Int.toNat_natCast,List.getElem?_eq_getElem hk]
 rw [hf]
 have c0:W.cell? ⟨ab,0,none⟩=some av:=h.cell 0
 obtain ⟨a,cap,rfl,hc1,hc2,hc⟩:=hv
 obtain ⟨g,o,rfl,-,-,hcell⟩:=hc (by omega)
 have c1:=(hcell k hk).1
 generalize d[k].fin=fb at *
 have i1:(k:Int)<(d.length:Int):=by omega
 clear h hq hcell hc hf hk
 generalize d.length=n at *
 go_enter Tryz.func32,Tryz.ntmps32
 go_wp2_with fail
 go_ret
 exact ⟨rfl,rfl⟩
end F12
namespace F12
open Go.RowKit Go.Maps
namespace Wk
abbrev TP:List TypeId:=[5,115,118,56,9,35,4,3]
end Wk
theorem push_to {W w5:World} {B lb g cap:Nat} {lv:Value} {acc:List Fs.En} {t:List UInt8} {x:Int} (hbox:RowT 22 W lb #[lv]) (hB:B≤lb) (hown:OwnE W B lv acc)
  (h5:w5.ownsRow B 29 2 (.slice (some ⟨g,0,none⟩) (acc.length+1) cap) (acc.length+1) (entV acc++[.string (bs t),.int .i64 x])) (hg:Grew W w5 lv (.slice (some ⟨g,0,none⟩) (acc.length+1) cap)):
  (w5.cell? ⟨lb,0,none⟩=some lv∧w5.frozen? ⟨lb,0,none⟩=false)∧RowT 22 (w5.setCell ⟨lb,0,none⟩ (.slice (some ⟨g,0,none⟩) (acc.length+1) cap)) lb #[.slice (some ⟨g,0,none⟩) (acc.length+1) cap] ∧
  OwnE (w5.setCell ⟨lb,0,none⟩ (.slice (some ⟨g,0,none⟩) (acc.length+1) cap)) B (.slice (some ⟨g,0,none⟩) (acc.length+1) cap) (acc++[(t,x)])∧KeptT Wk.TP B W (w5.setCell ⟨lb,0,none⟩ (.slice (some ⟨g,0,none⟩) (acc.length+1) cap)):=by
 have k1:KeptT (22 :: Wk.TP) B W w5:=hg.keptT hown (by decide)
 have b5:RowT 22 w5 lb #[lv]:=hbox.keep (k1.kind _ _ _ _ hbox (by decide))
 have k2:KeptT (29 :: Wk.TP) B w5 (w5.setCell ⟨lb,0,none⟩ (.slice (some ⟨g,0,none⟩) (acc.length+1) cap)):=KeptT.set lb 0 _ hB fun c ty fz hc=>by
  rw [kind_inj hc b5]
  decide
 refine ⟨⟨b5.cell 0,b5.frozen 0⟩,b5.set 0 _,?_,(k1.less (by decide)).trans (k2.less (by decide))⟩
 have h6:=OwnE.push (x:=(t,x)) h5
 exact ownsRow_kt h6 k2 (by decide)
structure MatJ (B lb kb tb:Nat) (most:Int) (W:World) (s:List Fs.En × Bool):Prop where
 box:∃lv,RowT 22 W lb #[lv]∧OwnE W B lv s.1
 lim:RowT 3 W kb #[.int .i64 most]
 more:RowT 4 W tb #[.bool s.2]
theorem matchTold_any (B lb kb tb:Nat) (most:Int) (W:World) (s:List Fs.En × Bool) (hl:B≤lb) (ht:B≤tb) (hBW:B≤W.heap.size) (h:MatJ B lb kb tb most W s) (hn:s.1.length<65536) (t:List UInt8) (x:Int):
  Calls Tryz.prog 33 #[.agg #[.string (bs t),.int .i64 x],.pointer (some ⟨lb,0,none⟩),.pointer (some ⟨kb,0,none⟩),.pointer (some ⟨tb,0,none⟩)] W fun e w'=>e=.returned (.bool (Wk.yM most s (t,x)).2)∧MatJ B lb kb tb most w' (Wk.yM most s (t,x)).1∧KeptT (5 :: Wk.TW) B W w':=by
 obtain ⟨⟨lv,h1,hown⟩,h2,h3⟩:=h
 obtain ⟨acc,mr⟩:=s
 dsimp only at hown h3 hn
 obtain ⟨al,cl,rfl⟩:=hown.form
 have hba:=(Below.refl W.heap.size W).alloc (Nat.le_refl _) (.cells #[.string (bs t),.int .i64 x] 29)
 have r1:=h1.keep (hba.block _ h1.lt)
 have r2:=h2.keep (hba.block _ h2.lt)
 have r3:=h3.keep (hba.block _ h3.lt)
 have ro:OwnE (W.alloc (.cells #[.string (bs t),.int .i64 x] 29)) B (.slice al acc.length cl) acc:=World.ownsRow.alloc hown _
 have rx:RowT 29 (W.alloc (.cells #[.string (bs t),.int .i64 x] 29)) W.heap.size #[.string (bs t),.int .i64 x]:=Go.Deep.blk_alloc_new _ _
 have c1:=r1.cell 0
 have c2:=r2.cell 0
 have c3:=r3.cell 0
 have f3:=r3.frozen 0
 by_cases hm:most≤(acc.length:Int)
 ·have hy:Wk.yM most (acc,mr) (t,x)=((acc,true),false):=by unfold Wk.yM;exact if_pos hm
  rw [hy]
  have k1:KeptT (5 :: 22 :: 29 :: 3 :: Wk.TW) B W ((W.alloc (.cells #[.string (bs t),.int .i64 x] 29)).setCell ⟨tb,0,none⟩ (.bool true)):=(KeptT.of_below hba).trans (KeptT.set tb 0 _ ht fun c ty fz hc=>by
   rw [kind_inj hc r3]
   decide)
  have HJ:Hid (MatJ B lb kb tb most ((W.alloc (.cells #[.string (bs t),.int .i64 x] 29)).setCell ⟨tb,0,none⟩ (.bool true)) (acc,true)):=⟨⟨_,h1.keep (k1.kind _ _ _ _ h1 (by decide)),ownsRow_kt hown k1 (by decide)⟩,h2.keep (k1.kind _ _ _ _ h2 (by decide)),r3.set 0 _⟩
  have HK:=lh (k1.less (S:=5 :: Wk.TW) (by decide))
  clear h1 h2 h3 hown hba r1 r2 r3 ro rx k1 hy
  generalize acc.length=n at *
  generalize bs t=T at *
  go_enter Tryz.func33,Tryz.ntmps33
  go_wp2_with fail
  go_ret
  exact ⟨rfl,HJ.out,HK.out⟩
 ·have hy:Wk.yM most (acc,mr) (t,x)=((acc++[(t,x)],false),true):=by unfold Wk.yM;exact if_neg hm
  rw [hy]
  have k1:KeptT (5 :: 22 :: 29 :: 3 :: Wk.TW) B (W.alloc (.cells #[.string (bs t),.int .i64 x] 29)) ((W.alloc (.cells #[.string (bs t),.int .i64 x] 29)).setCell ⟨tb,0,none⟩ (.bool false)):=KeptT.set tb 0 _ ht fun c ty fz hc=>by
   rw [kind_inj hc r3]
   decide
  have q1:=r1.keep (k1.kind _ _ _ _ r1 (by decide))
  have q2:=r2.keep (k1.kind _ _ _ _ r2 (by decide))
  have q3:=r3.set 0 (.bool false)
  have qo:OwnE ((W.alloc (.cells #[.string (bs t),.int .i64 x] 29)).setCell ⟨tb,0,none⟩ (.bool false)) B (.slice al acc.length cl) acc:=ownsRow_kt ro k1 (by decide)
  have qx:=rx.keep (k1.kind _ _ _ _ rx (by decide))
  have hsz:B≤((W.alloc (.cells #[.string (bs t),.int .i64 x] 29)).setCell ⟨tb,0,none⟩ (.bool false)).heap.size:=Nat.le_trans hBW (Nat.le_trans (KeptT.of_below (T:=[]) (B:=0) hba).size k1.size)
  have HK0:Hid (KeptT (5 :: Wk.TW) B W ((W.alloc (.cells #[.string (bs t),.int .i64 x] 29)).setCell ⟨tb,0,none⟩ (.bool false))):=(KeptT.of_below hba).trans (k1.less (by decide))
  have HQ:=lh (And.intro q1 (And.intro q2 (And.intro q3 (And.intro qo qx))))
  have HSZ:=lh hsz
  clear h1 h2 h3 hown hba r1 r2 r3 ro rx k1 hy q1 q2 q3 qo qx hsz
  go_enter Tryz.func33,Tryz.ntmps33
  go_upto_region 3 with (fail)
  generalize (W.alloc (.cells #[.string (bs t),.int .i64 x] 29)).setCell ⟨tb,0,none⟩ (.bool false)=W2 at *
  generalize W.heap.size=xb at *
  clear c1 c2 c3 f3
  have m1:=HQ.out.1.cell 0
  have m2:=HQ.out.2.2.2.2.cell 0
  have m3:=HQ.out.2.2.2.2.cell 1
  obtain ⟨ii,hii,hz0,hz1,hz2⟩:=info_parts Tryz.infoE
  have HPU:Hid (∀g5 cap5 w5,w5.ownsRow B 29 2 (.slice (some ⟨g5,0,none⟩) (acc.length+1) cap5) (acc.length+1) (entV acc++[.string (bs t),.int .i64 x])→Grew W2 w5 (.slice al acc.length cl) (.slice (some ⟨g5,0,none⟩) (acc.length+1) cap5)→(w5.cell? ⟨lb,0,none⟩=some (.slice al acc.length cl)∧w5.frozen? ⟨lb,0,none⟩=false)∧MatJ B lb kb tb most (w5.setCell ⟨lb,0,none⟩ (.slice (some ⟨g5,0,none⟩) (acc.length+1) cap5)) (acc++[(t,x)],false)∧KeptT (5 :: Wk.TW) B W (w5.setCell ⟨lb,0,none⟩ (.slice (some ⟨g5,0,none⟩) (acc.length+1) cap5))∧(w5.setCell ⟨lb,0,none⟩ (.slice (some ⟨g5,0,none⟩) (acc.length+1) cap5)).cell? ⟨tb,0,none⟩=some (.bool false)):=fun g5 cap5 w5 h5 hg5=>by
   obtain ⟨q1,q2,q3,qo,_⟩:=HQ.out
   obtain ⟨a1,a2,a3,a4⟩:=push_to q1 hl qo h5 hg5
   have r3:=q3.keep (a4.kind _ _ _ _ q3 (by decide))
   exact ⟨a1,⟨⟨_,a2,a3⟩,q2.keep (a4.kind _ _ _ _ q2 (by decide)),r3⟩,HK0.out.trans (a4.less (by decide)),r3.cell 0⟩
  go_wp2_with (at_builtin;go_loud ((refine wpList_pushR rfl _ _ 22 29 rfl ii _ 2 24 Tryz.underlying22 hii hz0 hz1 hz2 rfl (by decide) B HSZ.out (.slice al acc.length cl) acc.length (entV acc) rfl HQ.out.2.2.2.1 [.string (bs t),.int .i64 x] rfl (one_of rfl) rfl (by omega) (by omega) ?_;intro g5 cap5 w5 hown5 hgr5;obtain ⟨⟨m5,m6⟩,hj5,hk5,m7⟩:=HPU.out g5 cap5 w5 hown5 hgr5;have HJ5:=lh hj5;have HK5:=lh hk5;clear hown5 hgr5 hj5 hk5)))
  go_ret
  exact ⟨rfl,HJ5.out,HK5.out⟩
end F12
namespace F12
open Go.RowKit Go.Maps
theorem match_told (w0:World) (lb kb tb:Nat) (hl:w0.heap.size≤lb) (ht:w0.heap.size≤tb) (most:Int):Told Tryz.prog w0 33 #[.pointer (some ⟨lb,0,none⟩),.pointer (some ⟨kb,0,none⟩),.pointer (some ⟨tb,0,none⟩)] (Wk.yM most) (fun s=>s.1.length) (MatJ w0.heap.size lb kb tb most) where
 ey:=enters_of Tryz.func33 (by kernel_rfl) rfl
 less:=fun s e=>by
  unfold Wk.yM
  split
  ·show s.1.length≤_
   omega
  ·show (s.1++[e]).length≤_
   rw [List.length_append,List.length_singleton]
   omega
 jkeep:=fun W W' s h k=>by
  obtain ⟨⟨lv,h1,h2⟩,h3,h4⟩:=h
  exact ⟨⟨lv,h1.keep (k.kind _ _ _ _ h1 (by decide)),ownsRow_kt h2 k (by decide)⟩,h3.keep (k.kind _ _ _ _ h3 (by decide)),h4.keep (k.kind _ _ _ _ h4 (by decide))⟩
 yield:=fun W s t x hc h hb=>(matchTold_any _ lb kb tb most W s hl ht hb.size h hc t x).mono fun e w' ⟨h1,h2,h3⟩=>⟨h1,h2,h3.below hb hb.size,h3⟩
theorem match_mach {σ:Type} {w0:World} {fy:FuncId} {Cy:Array Value} {y:σ→Fs.En→σ × Bool} {cnt:σ→Nat} {J:World→σ→Prop} (ht:Told Tryz.prog w0 fy Cy y cnt J) {d:List Au.St} (hf:Au.Fits d) (av:Value) (ab:Nat):
  Mach Tryz.prog w0 30 32 fy #[.pointer (some ⟨ab,0,none⟩)] #[.pointer (some ⟨ab,0,none⟩)] Cy (Wk.stpA d) (Wk.finA d) y cnt (Wk.okA d) (fun W=>RowT 35 W ab #[av]∧StS (fun g=>g<w0.heap.size) W av d) J where
 es:=enters_of Tryz.func30 (by kernel_rfl) rfl
 ef:=enters_of Tryz.func32 (by kernel_rfl) rfl
 ey:=ht.ey
 ikeep:=fun W W' h k=>⟨h.1.keep (k.kind _ _ _ _ h.1 (by decide)),h.2.keep k.size fun g hg hw=>k.old g hg hw⟩
 jkeep:=ht.jkeep
 less:=ht.less
 next:=fun q c h=>Wk.stpA_ok hf q c h
 step:=fun W q c h _ _=>matchStep_any _ W ab av d q c h.1 h.2
 final:=fun W q h _ hq=>matchFinal_any _ W ab av d q hq h.1 h.2
 yield:=ht.yield
theorem match_any (w:World) (dv av:Value) (l:List Fs.En) (d:List Au.St) (most:Int) (hd:Dt w dv l) (hv:StS (fun _=>True) w av d):
  Calls Tryz.prog 14 #[dv,av,.int .i64 most] w fun e w'=>∃v,e=.returned (.tuple #[v,.bool (decide (most.toNat<(Wk.mat l d).length))])∧OwnE w' w.heap.size v ((Wk.mat l d).take most.toNat)∧Below w.heap.size w w':=by
 have b1:Below w.heap.size w (w.alloc (.cells #[av] 35)):=(Below.refl _ _).alloc (Nat.le_refl _) _
 have s1:(w.alloc (.cells #[av] 35)).heap.size=w.heap.size+1:=World.size_alloc _ _
 have r1:RowT 35 (w.alloc (.cells #[av] 35)) w.heap.size #[av]:=Go.Deep.blk_alloc_new _ _
 have b2:=b1.alloc b1.size (.cells #[.int .i64 most] 3)
 have r2:=r1.keep (Go.Deep.blk_alloc_lt _ (.cells #[.int .i64 most] 3) _ r1.lt)
 have r3:RowT 3 ((w.alloc (.cells #[av] 35)).alloc (.cells #[.int .i64 most] 3)) (w.heap.size+1) #[.int .i64 most]:=by
  show _=_
  rw [←s1]
  exact Go.Deep.blk_alloc_new _ _
 have hv2:=hv.below b2
 obtain ⟨W2,hW2⟩:∃W2,W2=(w.alloc (.cells #[av] 35)).alloc (.cells #[.int .i64 most] 3):=⟨_,rfl⟩
 rw [←hW2] at b2 r2 r3 hv2
 have HC:=lh (checkP_any _ W2 av d hv2)
 have c0:=r2.cell 0
 obtain ⟨p,rfl⟩:=hd.form
 by_cases hf:Au.Fits d
 ·rw [(Au.check_iff d).2 hf] at HC
  have HALL:Hid (∀w3,Below W2.heap.size W2 w3→Calls Tryz.prog 26 #[.pointer (some ⟨w3.heap.size+1+1,0,none⟩)] (((w3.alloc (.cells #[.slice none 0 0] 22)).alloc (.cells #[.bool false] 4)).alloc (.cells #[.pointer p,.func (.func 30) #[] #[.pointer (some ⟨w.heap.size,0,none⟩)],.func (.func 32) #[] #[.pointer (some ⟨w.heap.size,0,none⟩)],.func (.func 33) #[] #[.pointer (some ⟨w3.heap.size,0,none⟩),.pointer (some ⟨w.heap.size+1,0,none⟩),.pointer (some ⟨w3.heap.size+1,0,none⟩)]] 56)) fun e w'=>e=.returned (.tuple #[])∧∃v,RowT 22 w' w3.heap.size #[v]∧RowT 4 w' (w3.heap.size+1) #[.bool (decide (most.toNat<(Wk.mat l d).length))]∧OwnE w' w.heap.size v ((Wk.mat l d).take most.toNat)∧Below w.heap.size w w'):=fun w3 hb3=>by
   have hb23:=b2.trans (hb3.mono b2.size)
   have a1:Below w3.heap.size w3 (w3.alloc (.cells #[.slice none 0 0] 22)):=(Below.refl _ _).alloc (Nat.le_refl _) _
   have z1:(w3.alloc (.cells #[.slice none 0 0] 22)).heap.size=w3.heap.size+1:=World.size_alloc _ _
   have q1:RowT 22 (w3.alloc (.cells #[.slice none 0 0] 22)) w3.heap.size #[.slice none 0 0]:=Go.Deep.blk_alloc_new _ _
   obtain ⟨V1,hV1⟩:∃V1,V1=w3.alloc (.cells #[.slice none 0 0] 22):=⟨_,rfl⟩
   rw [←hV1] at a1 z1 q1 ⊢
   have a2:=a1.alloc a1.size (.cells #[.bool false] 4)
   have z2:(V1.alloc (.cells #[.bool false] 4)).heap.size=w3.heap.size+1+1:=by rw [World.size_alloc,z1]
   have q2:RowT 4 (V1.alloc (.cells #[.bool false] 4)) (w3.heap.size+1) #[.bool false]:=by
    show _=_
    rw [←z1]
    exact Go.Deep.blk_alloc_new _ _
   have q3:=q1.keep (Go.Deep.blk_alloc_lt _ (.cells #[.bool false] 4) _ q1.lt)
   obtain ⟨V2,hV2⟩:∃V2,V2=V1.alloc (.cells #[.bool false] 4):=⟨_,rfl⟩
   rw [←hV2] at a2 z2 q2 q3 ⊢
   obtain ⟨cc,hcc⟩:∃cc,cc=(Obj.cells #[.pointer p,.func (.func 30) #[] #[.pointer (some ⟨w.heap.size,0,none⟩)],.func (.func 32) #[] #[.pointer (some ⟨w.heap.size,0,none⟩)],.func (.func 33) #[] #[.pointer (some ⟨w3.heap.size,0,none⟩),.pointer (some ⟨w.heap.size+1,0,none⟩),.pointer (some ⟨w3.heap.size+1,0,none⟩)]] 56):=⟨_,rfl⟩
   rw [←hcc]
   have a3:=a2.alloc a2.size cc
   have q4:=q2.keep (Go.Deep.blk_alloc_lt _ cc _ q2.lt)
   have q5:=q3.keep (Go.Deep.blk_alloc_lt _ cc _ q3.lt)
   have q6:RowT 56 (V2.alloc cc) (w3.heap.size+1+1) #[.pointer p,.func (.func 30) #[] #[.pointer (some ⟨w.heap.size,0,none⟩)],.func (.func 32) #[] #[.pointer (some ⟨w.heap.size,0,none⟩)],.func (.func 33) #[] #[.pointer (some ⟨w3.heap.size,0,none⟩),.pointer (some ⟨w.heap.size+1,0,none⟩),.pointer (some ⟨w3.heap.size+1,0,none⟩)]]:=by
    show _=_
    rw [←z2,hcc]
    exact Go.Deep.blk_alloc_new _ _
   have hI:RowT 35 (V2.alloc cc) w.heap.size #[av]:=(r2.keep (hb3.block _ r2.lt)).keep (a3.block _ (r2.keep (hb3.block _ r2.lt)).lt)
   have hS3:StS (fun g=>g<w3.heap.size) w3 av d:=(hv2.below hb3).wide fun g hg _=>hg
   have hS5:StS (fun g=>g<w3.heap.size) (V2.alloc cc) av d:=hS3.keep a3.size fun g hg _=>a3.block g hg
   have hK:RowT 3 (V2.alloc cc) (w.heap.size+1) #[.int .i64 most]:=(r3.keep (hb3.block _ r3.lt)).keep (a3.block _ (r3.keep (hb3.block _ r3.lt)).lt)
   have ht:=match_told w3 w3.heap.size (w.heap.size+1) (w3.heap.size+1) (Nat.le_refl _) (by omega) most
   have hq:=course_any w3 (V2.alloc cc) (w3.heap.size+1+1) (.pointer p) l (hd.below hb23) _ _ _ _ _ _ _ _ _ _ _ _ _ (match_mach ht hf av w.heap.size) ⟨Int.le_refl _,by have:=hf.pos;omega⟩ ([],false) (by have:=hd.few;simp only [List.length_nil];omega) ⟨q6,⟨hI,hS5⟩,⟨⟨_,q5,ownE_nil _ _⟩,hK,q4⟩,a3⟩
   rw [Wk.mat_ok hf,Wk.feed_match most _ [] (Nat.zero_le _)] at hq
   refine hq.mono ?_
   rintro e w' ⟨rfl,⟨⟨v,h1,h2⟩,_,h3⟩,h4⟩
   have h5:=OwnE.base (C:=w.heap.size) h2 hb23.size
   simp only [List.nil_append,List.length_nil,Nat.sub_zero,Nat.zero_add] at h3 h5
   exact ⟨rfl,v,h1,h3,h5,hb23.trans (h4.mono hb23.size)⟩
  generalize decide (most.toNat<(Wk.mat l d).length)=mr at *
  generalize (Wk.mat l d).take most.toNat=M at *
  have hsf:∀(a:Addr) (F:Fn) (T:Array Value) (C:Array Value) (m:Mode) (w:World),(store a (.func F T C) m).run Tryz.prog w=stored Tryz.prog w a (.func F T C) m:=fun a F T C m w=>run_store Tryz.prog w a (.func F T C) m rfl
  obtain ⟨aa,ca,rfl,-⟩:=hv
  subst hW2
  clear b1 s1 r1 b2 r2 r3 hv2 hf hd
  go_enter Tryz.func14,Tryz.ntmps14
  go_wp2_with (first | (go_at_call 29;go_loud ((refine HC.out.mono ?_;rintro e3 w3 ⟨rfl,hb3⟩;have HB3:=lh hb3;clear hb3))) | (go_at_call 26;go_loud ((refine (HALL.out w3 HB3.out).mono ?_;rintro e4 w4 ⟨rfl,v4,h1,h2,h3,h4⟩;have m1:=h1.cell 0;have m2:=h2.cell 0;obtain ⟨a4,k4,rfl⟩:=h3.form;have HO4:=lh h3;have HB4:=lh h4;clear h1 h2 h3 h4))))
  go_region
  all_goals go_wp2_with fail
  all_goals go_ret2
  all_goals exact ⟨_,rfl,ownsRow_keep HO4.out fun k hk=>rfl,HB4.out.drew⟩
 ·have hne:¬Au.check d=0:=fun q=>hf ((Au.check_iff d).1 q)
  have hn2:(Au.check d==0)=false:=by rw [beq_eq_false_iff_ne];exact hne
  rw [Wk.mat_bad hf,List.take_nil]
  obtain ⟨aa,ca,rfl,-⟩:=hv
  generalize Au.check d=E at *
  have HB2:=lh b2
  subst hW2
  clear b1 s1 r1 r2 r3 hv2 hf hd b2
  go_enter Tryz.func14,Tryz.ntmps14
  go_wp2_with (go_at_call 29;go_loud ((refine HC.out.mono ?_;rintro e3 w3 ⟨rfl,hb3⟩;have HB3:Hid (Below w.heap.size w w3):=HB2.out.trans (hb3.mono HB2.out.size);clear hb3)))
  go_ret2
  exact ⟨_,rfl,ownE_nil _ _,HB3.out⟩
end F12
namespace F12
open Go.RowKit Go.Maps
namespace Wk
def catL:List Fs.En:=[([99,97,116],5),([100,111,103],7),([104,97,116],3)]
theorem cat_fit:Fs.fitO catL=true:=by decide +kernel
theorem cat_ceil:(catL.filter fun e=>!Fs.lt e.1 [100]).head?=some ([100,111,103],7):=by decide
theorem at_let:Wl.letE [63,97,116] [42,63]=0∧Wl.letS [63,97,116] [42,63]=[63,97,116]++Wl.tail false:=by decide +kernel
theorem at_takes:Lib.validD [99,97,116]=true∧Lib.validD [100,111,103]=true∧Lib.validD [104,97,116]=true∧Wl.meets [63,97,116] false (Ut.dec [99,97,116])=true∧Wl.meets [63,97,116] false (Ut.dec [100,111,103])=false∧Wl.meets [63,97,116] false (Ut.dec [104,97,116])=true:=by decide +kernel
theorem at_mat {d:List Au.St} (hd:Wl.Out [63,97,116] false d):mat catL d=[([99,97,116],5),([104,97,116],3)]:=by
 obtain ⟨k1,k2,k3,k4,k5,k6⟩:=at_takes
 have e1:Au.takesL d [99,97,116]=true:=(hd.eq k1).trans k4
 have e2:Au.takesL d [100,111,103]=false:=(hd.eq k2).trans k5
 have e3:Au.takesL d [104,97,116]=true:=(hd.eq k3).trans k6
 unfold mat catL
 rw [List.filter_cons_of_pos (by exact e1),List.filter_cons_of_neg (by rw [e2];simp),List.filter_cons_of_pos (by exact e3)]
 rfl
end Wk
theorem awake_any (w:World) (hT:Tabs w):Calls Tryz.prog 8 #[] w fun e w'=>e=.returned (.bool true)∧Below w.heap.size w w':=by
 have hc:∀c∈([63,97,116]:List Int),c≠42:=by decide
 obtain ⟨d,hd⟩:=Wl.auto_out hc false (by decide)
 have hmat:=Wk.at_mat hd
 have HOP:Hid (Calls Tryz.prog 7 #[.slice (some ⟨w.heap.size,0,none⟩) 3 3] (w.alloc (.cells #[.string ⟨#[99,97,116]⟩,.int .i64 5,.string ⟨#[100,111,103]⟩,.int .i64 7,.string ⟨#[104,97,116]⟩,.int .i64 3] 29)) fun e w'=>∃db,e=.returned (.pointer (some ⟨db,0,none⟩))∧Dt w' (.pointer (some ⟨db,0,none⟩)) Wk.catL∧Below w.heap.size w w'):=by
  have ho:OwnE (w.alloc (.cells #[.string ⟨#[99,97,116]⟩,.int .i64 5,.string ⟨#[100,111,103]⟩,.int .i64 7,.string ⟨#[104,97,116]⟩,.int .i64 3] 29)) w.heap.size (.slice (some ⟨w.heap.size,0,none⟩) 3 3) Wk.catL:=⟨rfl,.inr ⟨w.heap.size,3,_,rfl,Nat.le_refl _,Go.Deep.blk_alloc_new _ _,Nat.le_refl _,by decide,rfl,rfl⟩⟩
  have hb:Below w.heap.size w (w.alloc (.cells #[.string ⟨#[99,97,116]⟩,.int .i64 5,.string ⟨#[100,111,103]⟩,.int .i64 7,.string ⟨#[104,97,116]⟩,.int .i64 3] 29)):=(Below.refl _ _).alloc (Nat.le_refl _) _
  refine (openL_any _ _ Wk.catL ho.ens (by decide) (by decide)).mono ?_
  rintro e w' ⟨dv,rfl,h1,⟨h2,db,rfl,h3⟩ | ⟨h2,_⟩⟩
  ·exact ⟨db,rfl,h3,hb.trans (h1.mono hb.size)⟩
  ·rw [Wk.cat_fit] at h2
   cases h2
 have HCE:Hid (∀W p,Dt W (.pointer p) Wk.catL→Calls Tryz.prog 12 #[.pointer p,.string ⟨#[100]⟩] W fun e w'=>e=.returned (.tuple #[.agg #[.string ⟨#[100,111,103]⟩,.int .i64 7],.bool true])∧Below W.heap.size W w'):=fun W p h=>by
  have:=ceil_any W _ Wk.catL h [100] (by decide)
  rw [Wk.cat_ceil] at this
  exact this
 have HWI:Hid (∀w2,Below w.heap.size w w2→Calls Tryz.prog 22 #[.string ⟨#[63,97,116]⟩] (w2.alloc (.cells #[.string ⟨#[100,111,103]⟩,.int .i64 7] 29)) fun e w'=>∃a c,e=.returned (.tuple #[.slice a d.length c,.int .i64 0])∧StS (fun _=>True) w' (.slice a d.length c) d∧Below w2.heap.size w2 w'∧RowT 29 w' w2.heap.size #[.string ⟨#[100,111,103]⟩,.int .i64 7]):=fun w2 hb=>by
  have hb1:Below w2.heap.size w2 (w2.alloc (.cells #[.string ⟨#[100,111,103]⟩,.int .i64 7] 29)):=(Below.refl _ _).alloc (Nat.le_refl _) _
  have r1:RowT 29 (w2.alloc (.cells #[.string ⟨#[100,111,103]⟩,.int .i64 7] 29)) w2.heap.size #[.string ⟨#[100,111,103]⟩,.int .i64 7]:=Go.Deep.blk_alloc_new _ _
  refine (wild_ok _ ⟨#[63,97,116]⟩ (hT.below (hb.trans (hb1.mono hb.size))) (by decide) Wk.at_let.1 hc Wk.at_let.2 hd).mono ?_
  rintro e w' ⟨v,rfl,hs,hb2⟩
  have hs2:StS (fun _=>True) w' v d:=hs.sts.wide fun _ _ _=>trivial
  obtain ⟨a,c,rfl,_⟩:=hs.sts
  exact ⟨a,c,rfl,hs2,hb1.trans (hb2.mono hb1.size),r1.keep (hb2.block _ r1.lt)⟩
 have HMA:Hid (∀W p v,Dt W (.pointer p) Wk.catL→StS (fun _=>True) W v d→Calls Tryz.prog 14 #[.pointer p,v,.int .i64 9] W fun e w'=>∃g c,e=.returned (.tuple #[.slice (some ⟨g,0,none⟩) 2 c,.bool false])∧(w'.cell? ⟨g,2,none⟩=some (.string ⟨#[104,97,116]⟩)∧w'.cell? ⟨g,3,none⟩=some (.int .i64 3))∧Below W.heap.size W w'):=fun W p v h1 h2=>by
  have hq:=match_any W _ v Wk.catL d 9 h1 h2
  rw [hmat] at hq
  refine hq.mono ?_
  rintro e w' ⟨v',rfl,ho,hb⟩
  have hens:=ho.ens
  rcases ho.2 with ⟨_,h0⟩ | ⟨g3,cap3,_,rfl,_⟩
  ·exact absurd h0 (by decide)
  ·obtain ⟨a,c,q,_,_,hc⟩:=hens
   obtain ⟨g,o,rfl,hg,hcell⟩:=hc (by decide)
   have q1:=(Value.slice.inj q).1
   simp only [Option.some.injEq,Addr.mk.injEq,and_true] at q1
   obtain ⟨rfl,rfl⟩:=q1
   exact ⟨g3,cap3,rfl,hcell 1 (by decide),hb⟩
 clear hd hc hmat hT
 go_enter Tryz.func8,Tryz.ntmps8
 go_wp2_with (first | (go_at_call 7;go_loud ((refine HOP.out.mono ?_;rintro e1 w1 ⟨db,rfl,hd1,hb1⟩;have HD1:=lh hd1;have HB1:=lh hb1;clear hd1 hb1))) | (go_at_call 12;go_loud ((refine (HCE.out w1 _ HD1.out).mono ?_;rintro e2 w2 ⟨rfl,hb2⟩;have HD2:=lh (HD1.out.below hb2);have HB2:=lh (HB1.out.trans (hb2.mono HB1.out.size));clear hb2))) | (go_at_call 22;go_loud ((refine (HWI.out w2 HB2.out).mono ?_;rintro e3 w3 ⟨a3,c3,rfl,hs3,hb3,hr3⟩;have HD3:=lh (HD2.out.below hb3);have HB3:=lh (HB2.out.trans (hb3.mono HB2.out.size));have HS3:=lh hs3;have HR3:=lh hr3;clear hs3 hb3 hr3))) | (go_at_call 14;go_loud ((refine (HMA.out w3 _ _ HD3.out HS3.out).mono ?_;rintro e4 w4 ⟨g4,c4,rfl,⟨m2,m3⟩,hb4⟩;have hr4:=HR3.out.keep (hb4.block _ HR3.out.lt);have x0:=hr4.cell 0;have x1:=hr4.cell 1;have HB4:=lh (HB3.out.trans (hb4.mono HB3.out.size));clear hb4 hr4))))
 go_ret
 exact ⟨rfl,HB4.out⟩
end F12
end Go.Proofs.YtmdefnbpimfbgaaGreatDoor

/-
  The program's disk: what the closures of Append, Sync and SyncDir do.
-/
import Derived.Test.YtdohenbicepicaaWg
import Derived.Lib.AppendStr
import Derived.Deep.RegionLaw
import Derived.Deep.RegionWith
namespace Go.Proofs.Ytdohenbicepicaa
open Go.RowKit Go.Maps

theorem Try.infoB8 : (Try.prog.info? 5).map (fun i => (i.zero, i.size, i.bytes)) = some (some (.int .u8 0), 1, 1) := by kernel_rfl
/-- Bytes of a text behind a row of bytes: the row lies where it lay, or in a new block. -/
theorem run_append_text (w : World) (v : Value) (n : Nat) (xs : List Value) (hown : w.ownsRow 0 5 1 v n xs) (s : ByteArray) (hb : n + s.size ≤ 140737488355328) :
    ∃ v' w', (Builtin.append_ #[71, 9] 71 #[v, .string s]).run Try.prog w = .ok v' w' ∧ w'.ownsRow 0 5 1 v' (n + s.size) (xs ++ Lib.strCells s) ∧ w.grownBy w' v.ownBlock ∧ (∀ k, v'.ownBlock = some k → v.ownBlock = some k ∨ w.heap.size ≤ k) ∧ ∃ a l c, v' = .slice a l c := by
  obtain ⟨i0, hi, hz0, hz1, hz2⟩ := info_parts Try.infoB8
  have h63 : n + s.size ≤ maxLen := by unfold maxLen; omega
  obtain ⟨v', w', hr, h2, h3, h4⟩ := Lib.run_append_own_string (P := Try.prog) w 0 71 9 71 5 i0 Try.underlying71 Try.underlying9 hi hz0 hz1 hz2 v n xs hown s h63 hb (Nat.zero_le _)
  have hform : ∃ a l c, v' = .slice a l c := by
    rcases h2.2 with ⟨rfl, _⟩ | ⟨g, cap, cur, rfl, _⟩
    · exact ⟨_, _, _, rfl⟩
    · exact ⟨_, _, _, rfl⟩
  refine ⟨v', w', hr, h2, h3, ?_, hform⟩
  have hown' := hown
  rcases hown.2 with ⟨rfl, rfl⟩ | ⟨g, cap, cur, rfl, _, hg, hnc, hcm, hcs, htake⟩
  · by_cases hm : s.size = 0
    · obtain rfl := h4.2 ⟨rfl, hm⟩
      intro k hk
      cases hk
    · have hr2 := run_append_nil_string (P := Try.prog) w 71 9 71 5 i0 (.int .u8 0) Try.underlying71 Try.underlying9 hi hz0 s (by omega) (by omega) (by rw [hz2]; omega)
      rw [hr2] at hr
      injection hr with e1 _
      subst e1
      intro k hk
      obtain rfl : w.heap.size = k := by simpa [Value.ownBlock] using hk
      exact .inr (Nat.le_refl _)
  · by_cases hroom : n + s.size ≤ cap
    · have hr2 := Lib.run_append_room_string (P := Try.prog) w 71 9 71 5 i0 Try.underlying71 Try.underlying9 hi hz1 g n cap cur hg s hroom (by omega)
      rw [hr2] at hr
      injection hr with e1 _
      subst e1
      intro k hk
      exact .inl (by simpa [Value.ownBlock] using hk)
    · have hxl : xs.length = n := by simpa using hown'.1
      have hr2 := Lib.run_append_grow_string (P := Try.prog) w 71 9 71 5 i0 (.int .u8 0) Try.underlying71 Try.underlying9 hi hz0 ⟨g, 0, none⟩ n cap xs (by rw [hz1]; omega) (hown'.cells (g := g) rfl) s (by omega) (by omega) (by rw [hz2]; exact growslice_fits (by omega) (by omega))
      rw [hr2] at hr
      injection hr with e1 _
      subst e1
      intro k hk
      obtain rfl : w.heap.size = k := by simpa [Value.ownBlock] using hk
      exact .inr (Nat.le_refl _)
/-- At a step of a region that draws its order. -/
theorem step_append_text {ops : Array Oper} {o : Oper} {a : Act} {w : World} {K : Act → World → Prop} {Q : Exit → Act → World → Prop} {E : Prop} (hgd : o.guard = none) (sl x : Operand)
    (ho : o.op = .call { callee := .builtin .append, args := #[sl, x], argTypes := #[71, 9] }) (hty : o.type = 71)
    (v : Value) (n : Nat) (xs : List Value) (hs : a.eval sl = v) (hown : w.ownsRow 0 5 1 v n xs) (s : ByteArray) (hx : a.eval x = .string s) (hb : n + s.size ≤ 140737488355328)
    (h : ∀ a1 l1 c1 w', w'.ownsRow 0 5 1 (.slice a1 l1 c1) (n + s.size) (xs ++ Lib.strCells s) → w.grownBy w' v.ownBlock → (∀ k, (Value.slice a1 l1 c1).ownBlock = some k → v.ownBlock = some k ∨ w.heap.size ≤ k) → K (a.put o.dst (.slice a1 l1 c1)) w') :
    if Region.wanted o (yielded ops a.tmps) = true then Oper.wp Try.prog o a w K Q else E := by
  have hw : Region.wanted o (yielded ops a.tmps) = true := by simp [Region.wanted, hgd]
  rw [if_pos hw]
  obtain ⟨v', w', hr, h2, h3, h4, a1, l1, c1, rfl⟩ := run_append_text w v n xs hown s hb
  unfold Oper.wp execOp
  simp only [ho, hty, resolve, invoke, builtin, Sem.run_bind, Sem.run_pure, Result.andThen_ok, List.map_toArray, List.map_cons, List.map_nil, hs, hx, hr]
  exact h _ _ _ _ h2 h3 h4

/-- A file has turned: what the closure leaves. -/
theorem file_post {w w2 : World} {p mn ms : Nat} {φ : Nat → Nat} {ρ : Nat → Value} {D : Vf.Dk} {F : Nat → Prop} (h : PrA w p mn ms φ ρ D) (hF : ∀ k, PFoot p mn ms φ ρ D k → F k) (hl : ∀ k, F k → k < w.heap.size) (hpl : ∀ m, Vf.Live D m → Vf.place D.files m < D.files.length) (n : Nat) (hn : Vf.Live D n) (G : Vf.Fl → Vf.Fl) (hG : ∀ f, (G f).n = f.n) (v : Value)
    (hf : FileA w2 (φ n) v (G (Vf.fileAt D.files n))) (hv : ∀ k, v.ownBlock = some k → (ρ n).ownBlock = some k ∨ w.heap.size ≤ k) (e : ∀ k, k ≠ φ n → (ρ n).ownBlock ≠ some k → k < w.heap.size → w2.heap[k]? = w.heap[k]?)
    (ho : w2.os = w.os ∧ w2.tape = w.tape ∧ w2.output = w.output ∧ w.heap.size ≤ w2.heap.size) :
    ClPost w p F (Vf.put D (D.files.modify (Vf.place D.files n) G) D.names D.kept D.last) (.returned (.tuple #[])) w2 := by
  have hP := h.filed hpl n hn G hG v hf hv e
  have h1 : ∀ m, Vf.Live (Vf.put D (D.files.modify (Vf.place D.files n) G) D.names D.kept D.last) m → Vf.Live D m := fun m hm => hm
  refine ⟨rfl, ⟨mn, ms, φ, _, hP, fnew_foot hF hP (fun m hm => .inr ⟨h1 m hm, rfl⟩) (fun m k hm hk => ?_), fnew_lt hl ho.2.2.2⟩, ho.1, ho.2.1, ho.2.2.1, ho.2.2.2, fun k hk hf => e k (fun e => hf (hF k (.inr (.inr (.inr ⟨n, hn, .inl e⟩))))) (fun e => hf (hF k (.inr (.inr (.inr ⟨n, hn, .inr e⟩))))) hk⟩
  by_cases em : m = n
  · subst em
    rw [if_pos rfl] at hk
    rcases hv k hk with h | h
    · exact .inr ⟨h1 m hm, h⟩
    · exact .inl h
  · rw [if_neg em] at hk
    exact .inr ⟨h1 m hm, hk⟩

theorem FileA.form {w : World} {b : Nat} {v : Value} {f : Vf.Fl} (h : FileA w b v f) : ∃ a c, v = .slice a f.data.size c := by
  rcases h.2.2 with ⟨h1, h2⟩ | ⟨g, cap, cur, h1, _⟩
  · exact ⟨none, 0, by rw [h1, h2]⟩
  · exact ⟨_, _, h1⟩
theorem chg_sync (f : Vf.Fl) : Vf.chg f ByteArray.empty true = { f with sure := f.data.size } := by simp [Vf.chg]
set_option maxRecDepth 100000 in
set_option maxHeartbeats 2000000 in
theorem sync1_any (w : World) (p mn ms : Nat) (φ : Nat → Nat) (ρ : Nat → Value) (D : Vf.Dk) (F : Nat → Prop) (n : Nat) (hA : PrA w p mn ms φ ρ D) (hF : ∀ k, PFoot p mn ms φ ρ D k → F k) (hl : ∀ k, F k → k < w.heap.size)
    (hpl : ∀ m, Vf.Live D m → Vf.place D.files m < D.files.length) (hn : Vf.Live D n) :
    Calls Try.prog 46 #[.pointer (some ⟨φ n, 0, none⟩)] w (ClPost w p F (Vf.put D (D.files.modify (Vf.place D.files n) (fun f => Vf.chg f ByteArray.empty true)) D.names D.kept D.last)) := by
  have hf := hA.file n hn
  obtain ⟨a1, c1, hv⟩ := hf.form
  have hr := hf.1
  have k0 : w.cell? ⟨φ n, 0, none⟩ = some (.slice a1 (Vf.fileAt D.files n).data.size c1) := (hr.cell 0).trans (by rw [hv]; rfl)
  have k1 : w.cell? ⟨φ n, 1, none⟩ = some (.int .i64 ((Vf.fileAt D.files n).sure : Int)) := hr.cell 1
  have f1 := hr.frozen 1
  have HE : Hid (ClPost w p F (Vf.put D (D.files.modify (Vf.place D.files n) (fun f => Vf.chg f ByteArray.empty true)) D.names D.kept D.last) (.returned (.tuple #[])) (w.setCell ⟨φ n, 1, none⟩ (.int .i64 ((Vf.fileAt D.files n).data.size : Int)))) := by
    refine file_post hA hF hl hpl n hn (fun f => Vf.chg f ByteArray.empty true) (fun _ => rfl) (ρ n) ?_ (fun k hk => .inl hk) (fun k hk _ _ => heap_other _ _ _ _ _ hk) ⟨rfl, rfl, rfl, Nat.le_of_eq (setCell_size _ _ _).symm⟩
    show FileA _ _ _ (Vf.chg _ _ _)
    rw [chg_sync]
    refine ⟨hr.set 1 _, ownsRow_keep hf.2 fun k hk => heap_other _ _ _ _ _ fun e => ?_⟩
    exact hA.apart_row.2.2.2 n n k hn hn hk e
  clear hA hF hl hf hr hv hpl hn
  generalize (Vf.fileAt D.files n).data.size = sz at *
  generalize (Vf.fileAt D.files n).sure = su at *
  go_enter Try.func46, Try.ntmps46
  go_wp2_with fail
  go_end0
  exact HE.out

theorem strCells_append (a b : ByteArray) : Lib.strCells a ++ Lib.strCells b = Lib.strCells (a ++ b) := by
  unfold Lib.strCells
  rw [ByteArray.data_append, Array.toList_append, List.map_append]
set_option maxRecDepth 100000 in
set_option maxHeartbeats 2000000 in
theorem append1_any (w : World) (p mn ms : Nat) (φ : Nat → Nat) (ρ : Nat → Value) (D : Vf.Dk) (F : Nat → Prop) (n : Nat) (b : Addr) (data : ByteArray) (hA : PrA w p mn ms φ ρ D) (hF : ∀ k, PFoot p mn ms φ ρ D k → F k) (hl : ∀ k, F k → k < w.heap.size)
    (hb : w.cell? b = some (.string data)) (hpl : ∀ m, Vf.Live D m → Vf.place D.files m < D.files.length) (hn : Vf.Live D n) (hda : (Vf.fileAt D.files n).data.size ≤ 1099511627776) (hdb : data.size ≤ 1099511627776) :
    Calls Try.prog 45 #[.pointer (some ⟨φ n, 0, none⟩), .pointer (some b)] w (ClPost w p F (Vf.put D (D.files.modify (Vf.place D.files n) (fun f => Vf.chg f data false)) D.names D.kept D.last)) := by
  have hf := hA.file n hn
  obtain ⟨a0, c0, hv⟩ := hf.form
  have hr := hf.1
  have hrlt := hr.lt
  have k0 : w.cell? ⟨φ n, 0, none⟩ = some (ρ n) := hr.cell 0
  have g0 := hr.frozen 0
  have ho : w.drew.ownsRow 0 5 1 (ρ n) (Vf.fileAt D.files n).data.size (Lib.strCells (Vf.fileAt D.files n).data) := hf.2
  have hne : ∀ k, (ρ n).ownBlock = some k → k ≠ φ n := fun k hk => hA.apart_row.2.2.2 n n k hn hn hk
  have HW : Hid (∀ a1 l1 c1 w3, w3.ownsRow 0 5 1 (.slice a1 l1 c1) ((Vf.fileAt D.files n).data.size + data.size) (Lib.strCells (Vf.fileAt D.files n).data ++ Lib.strCells data) → w.drew.grownBy w3 (ρ n).ownBlock → (∀ k, (Value.slice a1 l1 c1).ownBlock = some k → (ρ n).ownBlock = some k ∨ w.drew.heap.size ≤ k) →
      (w3.cell? ⟨φ n, 0, none⟩ = some (ρ n) ∧ w3.frozen? ⟨φ n, 0, none⟩ = false) ∧ ClPost w p F (Vf.put D (D.files.modify (Vf.place D.files n) (fun f => Vf.chg f data false)) D.names D.kept D.last) (.returned (.tuple #[])) (w3.setCell ⟨φ n, 0, none⟩ (.slice a1 l1 c1))) := by
    intro a1 l1 c1 w3 hown3 hg3 hl3
    have hr3 : RowT 73 w3 (φ n) _ := hr.keep (hg3.block _ hrlt (fun e => hne _ e.symm rfl))
    refine ⟨⟨hr3.cell 0, hr3.frozen 0⟩, ?_⟩
    refine file_post hA hF hl hpl n hn (fun f => Vf.chg f data false) (fun _ => rfl) (.slice a1 l1 c1) ?_ hl3 (fun k h1 h2 h3 => (heap_other _ _ _ _ _ h1).trans (hg3.block k h3 (fun e => h2 e.symm))) ⟨hg3.os, hg3.tape, hg3.output, by rw [setCell_size]; exact hg3.size⟩
    refine ⟨hr3.set 0 _, ?_⟩
    have h2 : (w3.setCell ⟨φ n, 0, none⟩ (.slice a1 l1 c1)).ownsRow 0 5 1 (.slice a1 l1 c1) ((Vf.fileAt D.files n).data.size + data.size) (Lib.strCells (Vf.fileAt D.files n).data ++ Lib.strCells data) := by
      refine ownsRow_keep hown3 fun k hk => heap_other _ _ _ _ _ fun e => ?_
      rcases hl3 k hk with h | h
      · exact hne k h e
      · rw [e] at h; have h' : w.heap.size ≤ φ n := h; omega
    rw [strCells_append] at h2
    show (w3.setCell ⟨φ n, 0, none⟩ (.slice a1 l1 c1)).ownsRow 0 5 1 (.slice a1 l1 c1) ((Vf.fileAt D.files n).data ++ data).size (Lib.strCells ((Vf.fileAt D.files n).data ++ data))
    rw [ByteArray.size_append]
    exact h2
  have HO := Lib.hid ho
  rw [hv] at HO HW k0
  have hbd : (Vf.fileAt D.files n).data.size + data.size ≤ 140737488355328 := by omega
  clear hA hF hl hf hr hv hpl hn hrlt hne ho hda hdb
  generalize hfd : (Vf.fileAt D.files n).data = fd at *
  generalize hsz : fd.size = sz at *
  go_enter Try.func45, Try.ntmps45
  go_region_law ((refine step_append_text (by rfl) _ _ (by rfl) (by rfl) (.slice a0 sz c0) sz (Lib.strCells fd) (by simp [Act.eval]) HO.out data (by simp [Act.eval]) hbd ?_; intro a1 l1 c1 w3 hown3 hgrow3 hloc3; have hS3 := HW.out a1 l1 c1 w3 hown3 hgrow3 hloc3; have q0 : w3.cell? ⟨φ n, 0, none⟩ = some (.slice a0 sz c0) := hS3.1.1; have q1 : w3.frozen? ⟨φ n, 0, none⟩ = false := hS3.1.2; have HS3 := Lib.hid hS3.2; clear hS3 hown3 hgrow3 hloc3))
  all_goals
    go_wp2_with fail
    go_end0
    exact HS3.out

/-! ### maps.Clone -/
set_option maxRecDepth 100000 in
set_option maxHeartbeats 2000000 in
theorem cloneM_any (w : World) (b n : Nat) (F : ByteArray → Option Nat) (hM : MapA w b n F) :
    Calls Try.prog 48 #[.map (some b)] w fun e' w' => e' = .returned (.map (some w.heap.size)) ∧ MapA w' w.heap.size n F ∧ w.heap.size < w'.heap.size ∧ Below w.heap.size w w' := by
  have hq := fun w => run_eql_map_nil_sl (P := Try.prog) w 55 _ _ (some b) Try.underlying55
  obtain ⟨D, ⟨es, clock, hb, hr⟩, hs⟩ := hM
  have HR := Lib.hid (And.intro hr hs)
  have HB := Lib.hid hb
  clear hr hs
  go_enter Try.func48, Try.ntmps48
  go_wp2_with fail
  rw [run_callFunc_extern Try.func67 (by kernel_rfl) (by kernel_rfl) (by kernel_rfl) (e := Extern.MapsClone.clone) (by kernel_rfl), run_maps_clone_sl w 55 hb]
  simp only [Result.andThen]
  rw [Oper.upon_value]
  go_wp2_with fail
  rw [run_typeAssert_map_sl _ 55 20 _ _ _ Try.underlying55]
  simp only [Result.andThen]
  rw [Oper.upon_value]
  go_wp2_with fail
  go_ret
  exact ⟨rfl, ⟨D, ⟨es, clock, heap_alloc_new _ _, HR.out.1⟩, HR.out.2⟩, by simp, (Below.refl _ _).alloc (Nat.le_refl _) _⟩
end Go.Proofs.Ytdohenbicepicaa

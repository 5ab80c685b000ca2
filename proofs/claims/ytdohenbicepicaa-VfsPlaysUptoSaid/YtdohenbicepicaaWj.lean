/-
  The program's disk: its six changes, and Read.
-/
import Derived.Test.YtdohenbicepicaaWi
import Derived.Laws.BytesArg
import Derived.Laws.IdiomStrings
namespace Go.Proofs.Ytdohenbicepicaa
open Go.RowKit Go.Maps

namespace Vf
theorem done_kept (D : Dk) : (done D).2.files = D.files ∧ (done D).2.names = D.names ∧ (done D).2.kept = D.kept ∧ (done D).2.last = D.last := by
  unfold done
  split <;> exact ⟨rfl, rfl, rfl, rfl⟩
theorem chg_create (D : Dk) (s : ByteArray) : chgR D (D.files ++ [⟨D.last + 1, ByteArray.empty, 0⟩]) (link D.names s (D.last + 1)) D.kept (D.last + 1) = if (done D).1 ≠ 0 then done D else (0, { (done D).2 with last := D.last + 1, files := D.files ++ [⟨D.last + 1, ByteArray.empty, 0⟩], names := link D.names s (D.last + 1) }) := by
  unfold chgR
  split
  · rfl
  · unfold put
    rw [← (done_kept D).2.2.1]
theorem chg_files (D : Dk) (f : List Fl) : chgR D f D.names D.kept D.last = if (done D).1 ≠ 0 then done D else (0, { (done D).2 with files := f }) := by
  unfold chgR
  split
  · rfl
  · unfold put
    rw [← (done_kept D).2.2.1, ← (done_kept D).2.1, ← (done_kept D).2.2.2]
theorem chg_names (D : Dk) (n : List Lk) : chgR D D.files n D.kept D.last = if (done D).1 ≠ 0 then done D else (0, { (done D).2 with names := n }) := by
  unfold chgR
  split
  · rfl
  · unfold put
    rw [← (done_kept D).2.2.1, ← (done_kept D).1, ← (done_kept D).2.2.2]
theorem chg_sure (D : Dk) : chgR D D.files D.names D.names D.last = if (done D).1 ≠ 0 then done D else (0, { (done D).2 with kept := D.names }) := by
  unfold chgR
  split
  · rfl
  · unfold put
    have h1 := (done_kept D).1
    have h2 := (done_kept D).2.1
    have h3 := (done_kept D).2.2.2
    generalize (done D).2 = d2 at *
    cases d2
    simp at h1 h2 h3
    subst h1 h2 h3
    rfl
theorem Ok.fit {D : Dk} {c m : Nat} (h : Ok D c m) (hc : c ≤ 1073741824) : Fit D := ⟨h.armed, h.fault, by have := h.steps; omega⟩
theorem Ok.live {D : Dk} {c m : Nat} (h : Ok D c m) : ∀ n, Live D n → n ≤ D.last ∧ place D.files n < D.files.length := by
  rintro n ⟨x, hx, rfl⟩
  exact ⟨(h.nums x hx).2.1, (h.nums x hx).2.2.2⟩
end Vf

theorem cell_new (w : World) (H : Nat) (v : Value) (t : TypeId) (h : w.heap.size = H) : (w.alloc (.cells #[v] t)).cell? ⟨H, 0, none⟩ = some v := by
  subst h
  rw [cell_of_row _ _ 0 _ _ _ (heap_alloc_new w _)]
  rfl
/-- What the three calls with two captured cells ask of the world behind them. -/
theorem kept_cell {w w1 : World} {p : Nat} {a : Addr} {v : Value} (h : w.cell? a = some v) (hp : a.block ≠ p) (hk : ∀ k, k ≠ p → k < w.heap.size → w1.heap[k]? = w.heap[k]?) : w1.cell? a = some v := by
  have hal : a.block < w.heap.size := by
    rcases Nat.lt_or_ge a.block w.heap.size with h1 | h1
    · exact h1
    · simp [World.cell?, Array.getElem?_eq_none h1] at h
  rw [World.cell?_of_block (hk _ hp hal)]
  exact h

set_option maxRecDepth 100000 in
set_option maxHeartbeats 4000000 in
theorem createP_any (w : World) (p : Nat) (D : Vf.Dk) (F : Nat → Prop) (c m : Nat) (s : ByteArray) (hA : PA w p D F) (hok : Vf.Ok D c m) (hc : c ≤ 1048576) (hs : s.size ≤ 9223372036854775807) :
    Calls Try.prog 13 #[.pointer (some ⟨p, 0, none⟩), .string s] w (PPost w p F (Vf.create D s)) := by
  have H := Lib.hid hA
  obtain ⟨mn, ms, φ, ρ, hA, hF, hl⟩ := hA
  have hB1 : Below w.heap.size w (w.alloc (.cells #[.pointer (some ⟨p, 0, none⟩)] 23)) := (Below.refl _ _).alloc (Nat.le_refl _) _
  have hB2 := hB1.alloc hB1.size (.cells #[.string s] 9)
  have hB3 := hB2.alloc hB2.size (.cells #[.string s] 9)
  have ha2 : ((w.alloc (.cells #[.pointer (some ⟨p, 0, none⟩)] 23)).alloc (.cells #[.string s] 9)).cell? ⟨w.heap.size, 0, none⟩ = some (.pointer (some ⟨p, 0, none⟩)) := Lib.cell?_alloc_some _ (cell_new _ _ _ _ rfl)
  have hb2 : ((w.alloc (.cells #[.pointer (some ⟨p, 0, none⟩)] 23)).alloc (.cells #[.string s] 9)).cell? ⟨w.heap.size + 1, 0, none⟩ = some (.string s) := cell_new _ _ _ _ (by simp)
  have ha := Lib.cell?_alloc_some (.cells #[.string s] 9) ha2
  have hb := Lib.cell?_alloc_some (.cells #[.string s] 9) hb2
  have hg : (((w.alloc (.cells #[.pointer (some ⟨p, 0, none⟩)] 23)).alloc (.cells #[.string s] 9)).alloc (.cells #[.string s] 9)).cell? ⟨w.heap.size + 2, 0, none⟩ = some (.string s) := cell_new _ _ _ _ (by simp)
  have hsz2 : ((w.alloc (.cells #[.pointer (some ⟨p, 0, none⟩)] 23)).alloc (.cells #[.string s] 9)).heap.size = w.heap.size + 2 := by simp
  generalize hw2 : (w.alloc (.cells #[.pointer (some ⟨p, 0, none⟩)] 23)).alloc (.cells #[.string s] 9) = w2 at *
  generalize hw3 : w2.alloc (.cells #[.string s] 9) = w3 at *
  have hA3 := hA.keep (w' := w3) fun k hk => hB3.block k (hA.lt k hk)
  have hRf := Lib.hid (refusalP_one w3 p D _ _ _ _ _ hA3.row (w.heap.size + 2) s hg hs)
  obtain ⟨R, hR⟩ : ∃ R, R = Vf.create D s := ⟨_, rfl⟩
  rw [← hR]
  unfold Vf.create at hR
  have HB3 := Lib.hid hB3
  by_cases h1 : Vf.first D (Vf.okN s) ≠ 0
  · rw [if_pos h1] at hR
    have e1 : (Vf.first D (Vf.okN s) != 0) = true := by simpa using h1
    subst hR
    clear h1 hA hA3 hF hl hB1 hB2 hB3
    generalize Vf.first D (Vf.okN s) = fe at *
    go_enter Try.func13, Try.ntmps13
    go_wp2_with (first | (go_at_call 41; go_loud ((refine hRf.out.mono ?_; rintro e1 w1 ⟨rfl, rfl⟩))))
    go_ret
    exact PPost.same H.out HB3.out
  · rw [if_neg h1] at hR
    have h1' : Vf.first D (Vf.okN s) = 0 := by simpa using h1
    have hs40 := okN_size (first_ok h1').1
    rw [h1'] at hRf
    rw [← Vf.chg_create] at hR
    have hpw := hA.row.lt
    have hn := hok.names
    have hCh := Lib.hid (change_create w3 p mn ms φ ρ D F ⟨w.heap.size, 0, none⟩ ⟨w.heap.size + 1, 0, none⟩ (D.files ++ [⟨D.last + 1, ByteArray.empty, 0⟩]) (Vf.link D.names s (D.last + 1)) D.kept (D.last + 1) hA3 hF (fun k hk => Nat.lt_of_lt_of_le (hl k hk) hB3.size) (hok.fit (by omega)) fun w1 hp1 h1 h2 =>
      create1_any w1 p mn ms φ ρ (Vf.dec D) F _ _ s hp1 hF (fun k hk => by rw [h2]; exact Nat.lt_of_lt_of_le (hl k hk) hB3.size) (kept_cell ha (by show w.heap.size ≠ p; omega) fun k hk _ => h1 k hk) (kept_cell hb (by show w.heap.size + 1 ≠ p; omega) fun k hk _ => h1 k hk) hs40 (fun n hn => hok.live n hn) (fun f hf => (hok.files f hf).2.2) (by show D.names.length ≤ _; omega))
    subst hR
    clear h1 h1' hA hA3 hF hl hB1 hB2 hB3 hok hn hpw
    go_enter Try.func13, Try.ntmps13
    go_wp2_with (first | (go_at_call 41; go_loud ((refine hRf.out.mono ?_; rintro e1 w1 ⟨rfl, rfl⟩))) | (go_at_call 42; go_loud ((refine hCh.out.mono ?_; rintro e1 w4 ⟨rfl, h4⟩; have H4 := Lib.hid h4; clear h4))))
    go_ret
    exact PPost.of_below HB3.out ⟨rfl, H4.out⟩

set_option maxRecDepth 100000 in
set_option maxHeartbeats 4000000 in
theorem syncDirP_any (w : World) (p : Nat) (D : Vf.Dk) (F : Nat → Prop) (c m : Nat) (hA : PA w p D F) (hok : Vf.Ok D c m) (hc : c ≤ 1048576) :
    Calls Try.prog 16 #[.pointer (some ⟨p, 0, none⟩)] w (PPost w p F (Vf.syncDir D)) := by
  have H := Lib.hid hA
  obtain ⟨mn, ms, φ, ρ, hA, hF, hl⟩ := hA
  have hB1 : Below w.heap.size w (w.alloc (.cells #[.pointer (some ⟨p, 0, none⟩)] 23)) := (Below.refl _ _).alloc (Nat.le_refl _) _
  have ha : (w.alloc (.cells #[.pointer (some ⟨p, 0, none⟩)] 23)).cell? ⟨w.heap.size, 0, none⟩ = some (.pointer (some ⟨p, 0, none⟩)) := cell_new _ _ _ _ rfl
  generalize hw1 : w.alloc (.cells #[.pointer (some ⟨p, 0, none⟩)] 23) = w3 at *
  have hA3 := hA.keep (w' := w3) fun k hk => hB1.block k (hA.lt k hk)
  have hRf := Lib.hid (refusalP_none w3 p D _ _ _ _ _ hA3.row)
  obtain ⟨R, hR⟩ : ∃ R, R = Vf.syncDir D := ⟨_, rfl⟩
  rw [← hR]
  unfold Vf.syncDir at hR
  have HB1 := Lib.hid hB1
  by_cases h1 : Vf.first D true ≠ 0
  · rw [if_pos h1] at hR
    have e1 : (Vf.first D true != 0) = true := by simpa using h1
    subst hR
    clear h1 hA hA3 hF hl hB1
    generalize Vf.first D true = fe at *
    go_enter Try.func16, Try.ntmps16
    go_wp2_with (first | (go_at_call 41; go_loud ((refine hRf.out.mono ?_; rintro e1 w1 ⟨rfl, rfl⟩))))
    go_ret
    exact PPost.same H.out HB1.out
  · rw [if_neg h1] at hR
    have h1' : Vf.first D true = 0 := by simpa using h1
    rw [h1'] at hRf
    rw [← Vf.chg_sure] at hR
    have hpw := hA.row.lt
    have hCh := Lib.hid (change_syncDir w3 p mn ms φ ρ D F ⟨w.heap.size, 0, none⟩ D.files D.names D.names D.last hA3 hF (fun k hk => Nat.lt_of_lt_of_le (hl k hk) hB1.size) (hok.fit (by omega)) fun w1 hp1 h1 h2 =>
      syncDir1_any w1 p mn ms φ ρ (Vf.dec D) F _ hp1 hF (fun k hk => by rw [h2]; exact Nat.lt_of_lt_of_le (hl k hk) hB1.size) (kept_cell ha (by show w.heap.size ≠ p; omega) fun k hk _ => h1 k hk))
    subst hR
    clear h1 h1' hA hA3 hF hl hB1 hok hpw
    go_enter Try.func16, Try.ntmps16
    go_wp2_with (first | (go_at_call 41; go_loud ((refine hRf.out.mono ?_; rintro e1 w1 ⟨rfl, rfl⟩))) | (go_at_call 42; go_loud ((refine hCh.out.mono ?_; rintro e1 w4 ⟨rfl, h4⟩; have H4 := Lib.hid h4; clear h4))))
    go_ret
    exact PPost.of_below HB1.out ⟨rfl, H4.out⟩
end Go.Proofs.Ytdohenbicepicaa

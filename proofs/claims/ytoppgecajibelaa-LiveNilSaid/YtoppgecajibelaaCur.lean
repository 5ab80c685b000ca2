/-
  What a cursor's calls answer, and where they leave it.
-/
import Derived.Test.YtoppgecajibelaaText
namespace Go.Proofs.Ytoppgecajibelaa
open Go.RowKit

/-- A cursor in block b, with these bytes left. -/
def Cur (w : World) (b : Nat) (s : ByteArray) : Prop := w.cell? ⟨b, 0, none⟩ = some (.string s) ∧ w.frozen? ⟨b, 0, none⟩ = false

theorem Cur.lt {w : World} {b : Nat} {s : ByteArray} (h : Cur w b s) : b < w.heap.size := World.block_lt_of_cell? w _ h.1
theorem Cur.below {w w' : World} {B b : Nat} {s : ByteArray} (h : Cur w b s) (hb : Below B w w') (hB : b < B) : Cur w' b s :=
  ⟨(hb.cell (p := ⟨b, 0, none⟩) hB).trans h.1, (hb.frozen (p := ⟨b, 0, none⟩) hB).trans h.2⟩
theorem Cur.put {w : World} {b : Nat} {s : ByteArray} (h : Cur w b s) (r : ByteArray) : Cur (w.setCell ⟨b, 0, none⟩ (.string r)) b r :=
  ⟨World.cell?_setCell_same _ _ _ h.1, (World.frozen?_setCell _ _ _ _).trans h.2⟩

/-- What is left behind z bytes. -/
def rest (s : ByteArray) (z : Int) : ByteArray := s.extract z.toNat s.size
theorem rest_data (s : ByteArray) (z : Int) : (rest s z).data.toList = s.data.toList.drop z.toNat := by
  unfold rest
  rw [Lib.extract_data]
  apply List.take_of_length_le
  simp

set_option maxHeartbeats 400000 in
theorem at_any (s : ByteArray) (w : World) :
    Calls Try.prog 25 #[.string s] w fun e' w' => e' = .returned (.pointer (some ⟨w.heap.size, 0, none⟩)) ∧ w.alloc (.cells #[.string s] 65) = w' := by
  go_enter Try.func25, Try.ntmps25
  go_wp2
  go_ret
  exact ⟨rfl, rfl⟩
theorem at_cur (s : ByteArray) (w : World) (T : Nat) : Cur (w.alloc (.cells #[.string s] T)) w.heap.size s :=
  ⟨by rw [World.cell?_alloc_at _ _ _ _ rfl]; rfl, World.frozen?_alloc_at _ _ _ _ rfl⟩

set_option maxHeartbeats 400000 in
theorem rest_any (s : ByteArray) (b : Nat) (w : World) (hc : Cur w b s) :
    Calls Try.prog 27 #[.pointer (some ⟨b, 0, none⟩)] w fun e' w' => e' = .returned (.string s) ∧ w = w' := by
  obtain ⟨h1, h2⟩ := hc
  go_enter Try.func27, Try.ntmps27
  go_wp2
  go_ret
  exact ⟨rfl, rfl⟩
set_option maxHeartbeats 400000 in
theorem rest_nil (w : World) :
    Calls Try.prog 27 #[.pointer none] w fun e' w' => e' = .returned (.string ⟨#[]⟩) ∧ w = w' := by
  go_enter Try.func27, Try.ntmps27
  go_wp2
  go_ret
  exact ⟨rfl, rfl⟩
set_option maxHeartbeats 400000 in
theorem count_nil (w : World) :
    Calls Try.prog 26 #[.pointer none] w fun e' w' => e' = .returned (.tuple #[.int .i64 0, .int .i64 1]) ∧ w = w' := by
  go_enter Try.func26, Try.ntmps26
  go_wp2
  go_ret2
  exact ⟨rfl, rfl⟩
set_option maxHeartbeats 400000 in
theorem count_any (s : ByteArray) (b : Nat) (w : World) (hc : Cur w b s) (hsz : s.size ≤ 9223372036854775807) (n z e : Int) (hr : Pl.rdCount s.data.toList = (n, z, e)) :
    Calls Try.prog 26 #[.pointer (some ⟨b, 0, none⟩)] w fun e' w' => e' = .returned (.tuple #[.int .i64 n, .int .i64 e]) ∧ Below b w w' ∧ Cur w' b (rest s z) := by
  have hk := readCount_any s w (by omega) n z e hr
  have hb := rdCount_bd _ _ _ _ hr
  have hlen : s.data.toList.length = s.size := by simp
  rw [hlen] at hb
  have HC := Lib.hid hk
  have HP := Lib.hid (hc.put (rest s z))
  clear hr hk hlen
  obtain ⟨_, ⟨b3, b4⟩, _, _⟩ := hb
  obtain ⟨h1, h2⟩ := hc
  go_enter Try.func26, Try.ntmps26
  go_wp2_with (first | (go_at_call 33; refine HC.out.mono ?_; rintro e w' ⟨rfl, rfl⟩) | go_in)
  go_ret2
  exact ⟨rfl, (Below.refl _ _).setCell (by exact Nat.le_refl b) _, HP.out⟩

theorem rdBlock_bd (l : List UInt8) (t : List UInt8) (z e : Int) (h : Pl.rdBlock l = (t, z, e)) : (0 ≤ z ∧ z ≤ l.length) ∧ (e = 0 ∨ e = 2 ∨ e = 3) ∧ (e ≠ 0 → t = [] ∧ z = 0) := by
  obtain ⟨n', z', e', hw⟩ : ∃ n z e, Pl.rdCount l = (n, z, e) := ⟨_, _, _, rfl⟩
  have hb := rdCount_bd _ _ _ _ hw
  unfold Pl.rdBlock at h
  rw [hw] at h
  by_cases he : e' = 0
  · subst he
    simp only [ne_eq, not_true, if_false] at h
    by_cases hlt : (l.length : Int) - z' < n'
    · rw [if_pos hlt] at h
      obtain ⟨rfl, rfl, rfl⟩ : [] = t ∧ 0 = z ∧ 2 = e := by simpa using h
      exact ⟨by omega, by omega, fun _ => ⟨rfl, rfl⟩⟩
    · rw [if_neg hlt] at h
      obtain ⟨_, rfl, rfl⟩ : _ = t ∧ z' + n' = z ∧ 0 = e := by simpa using h
      exact ⟨by omega, by omega, fun h => absurd rfl h⟩
  · rw [if_pos he] at h
    obtain ⟨rfl, rfl, rfl⟩ : [] = t ∧ 0 = z ∧ e' = e := by simpa using h
    exact ⟨by omega, hb.2.2.1, fun _ => ⟨rfl, rfl⟩⟩
theorem rdText_bd : ∀ (n : Nat) (l out : List UInt8) (k : Nat) (t : List UInt8) (z e : Int), l.length ≤ n → Pl.rdText l out k = (t, z, e) → (0 ≤ z ∧ z ≤ k + l.length) ∧ (e = 0 ∨ e = 2 ∨ e = 3) ∧ (e ≠ 0 → t = [] ∧ z = 0) := by
  intro n
  induction n with
  | zero =>
    intro l out k t z e hl h
    obtain rfl : l = [] := List.length_eq_zero_iff.1 (by omega)
    obtain ⟨rfl, rfl, rfl⟩ : [] = t ∧ 0 = z ∧ 2 = e := by simpa [Pl.rdText] using h
    exact ⟨by omega, by omega, fun _ => ⟨rfl, rfl⟩⟩
  | succ n ih =>
    intro l out k t z e hl h
    cases l with
    | nil =>
      obtain ⟨rfl, rfl, rfl⟩ : [] = t ∧ 0 = z ∧ 2 = e := by simpa [Pl.rdText] using h
      exact ⟨by omega, by omega, fun _ => ⟨rfl, rfl⟩⟩
    | cons c r =>
      simp only [List.length_cons] at hl ⊢
      by_cases hc : 0 < c.toNat
      · rw [rdText_byte c r out k hc] at h
        have := ih r _ _ t z e (by omega) h
        refine ⟨⟨this.1.1, ?_⟩, this.2⟩
        have := this.1.2
        omega
      · have hz : c = 0 := UInt8.toNat_inj.1 (by simp; omega)
        subst hz
        cases r with
        | nil =>
          obtain ⟨rfl, rfl, rfl⟩ : [] = t ∧ 0 = z ∧ 2 = e := by simpa [Pl.rdText] using h
          exact ⟨by omega, by omega, fun _ => ⟨rfl, rfl⟩⟩
        | cons d r =>
          simp only [Pl.rdText] at h
          simp only [List.length_cons] at hl ⊢
          by_cases h255 : d = 255
          · rw [if_pos h255] at h
            have := ih r _ _ t z e (by omega) h
            refine ⟨⟨this.1.1, ?_⟩, this.2⟩
            have := this.1.2
            omega
          · rw [if_neg h255] at h
            by_cases h1 : d = 1
            · rw [if_pos h1] at h
              obtain ⟨rfl, rfl, rfl⟩ : out = t ∧ (k : Int) + 2 = z ∧ 0 = e := by simpa using h
              exact ⟨by omega, by omega, fun h => absurd rfl h⟩
            · rw [if_neg h1] at h
              obtain ⟨rfl, rfl, rfl⟩ : [] = t ∧ 0 = z ∧ 3 = e := by simpa using h
              exact ⟨by omega, by omega, fun _ => ⟨rfl, rfl⟩⟩

end Go.Proofs.Ytoppgecajibelaa

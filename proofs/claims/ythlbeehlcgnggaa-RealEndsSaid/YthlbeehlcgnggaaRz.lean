/-
  The program's number of a text: with no sign, and with one.
-/
import Derived.Test.YthlbeehlcgnggaaRq
namespace Go.Proofs.Ythlbeehlcgnggaa
open Go.RowKit

theorem chain {w w2 w3 : World} (h : Below w.heap.size w w2) (hb : Below w2.heap.size w2 w3) : Below w.heap.size w w3 := h.trans (hb.mono h.size)
theorem grew_d (w : World) (n : Nat) : Below w.heap.size w (w.drewN n) := belowN (Below.refl _ _) n

theorem dec_snoc (l : List UInt8) (k : Nat) (h : k < l.length) : Rf.dec 0 (l.take (k + 1)) = 10 * Rf.dec 0 (l.take k) + (l[k].toNat - 48) := by
  rw [List.take_succ_eq_append_getElem h, Rf.dec_append]
  rfl
theorem dec_take_lt (l : List UInt8) (k : Nat) (h : l.all Rf.isD = true) (hl : l.length ≤ 15) : Rf.dec 0 (l.take k) < 1000000000000000 := by
  have h1 : (l.take k).all Rf.isD = true := by
    rw [List.all_eq_true] at *
    exact fun x hx => h x (List.mem_of_mem_take hx)
  have h2 := Rf.dec_lt _ h1
  have h3 : 10 ^ (l.take k).length ≤ 10 ^ 15 := Nat.pow_le_pow_right (by decide) (by rw [List.length_take]; omega)
  omega

/-- What parseSize answers. -/
def ansF : Option Nat → Array Value
  | some x => #[.float .f64 x, .int .i64 0]
  | .none => #[.float .f64 0, .int .i64 3]

/-- The bytes' row, by name. -/
theorem bytes_at (s : ByteArray) : ∃ (cF : World → Nat) (wF : World → World), (∀ w, (convert 9 54 (.string s)).run Try.prog w = .ok (.slice (some ⟨w.heap.size, 0, none⟩) s.size (cF w)) (wF w)) ∧ (∀ w, Below w.heap.size w (wF w)) ∧ ∀ w j (_ : j < s.size), (wF w).cell? ⟨w.heap.size, j, none⟩ = some (.int .u8 (s[j].toNat : Nat)) :=
  ⟨fun w => Classical.choose (bytes_new s w), fun w => Classical.choose (Classical.choose_spec (bytes_new s w)), fun w => (Classical.choose_spec (Classical.choose_spec (bytes_new s w))).1, fun w => (Classical.choose_spec (Classical.choose_spec (bytes_new s w))).2.1, fun w => (Classical.choose_spec (Classical.choose_spec (bytes_new s w))).2.2⟩

theorem areDigits_two (a b : ByteArray) (ha : a.size ≤ 9223372036854775806) (hb : b.size ≤ 9223372036854775806) : ∃ D : ByteArray → Int → Bool, D a 12 = Rf.areD 12 a.data.toList ∧ D b 3 = Rf.areD 3 b.data.toList ∧
    ∀ (x : ByteArray) (m : Int), (x = a ∨ x = b) → (m = 12 ∨ m = 3) → ∀ w, Calls Try.prog 32 #[.string x, .int .i64 m] w fun e w' => e = .returned (.bool (D x m)) ∧ Below w.heap.size w w' := by
  refine ⟨fun x m => Rf.areD m.toNat x.data.toList, rfl, rfl, ?_⟩
  intro x m hx hm w
  obtain ⟨k, rfl, hk⟩ : ∃ k : Nat, m = (k : Int) ∧ k ≤ 100 := ⟨m.toNat, by omega, by omega⟩
  have hsz : x.size ≤ 9223372036854775807 := by rcases hx with rfl | rfl <;> omega
  exact areDigits_any x hsz k hk w

theorem cut_two (s : ByteArray) (hs : s.size ≤ 9223372036854775806) : ∃ a b : ByteArray, a.data.toList = (Rf.cut46 s.data.toList).1 ∧ b.data.toList = (Rf.cut46 s.data.toList).2.1 ∧
    ∀ w, Calls Try.prog 31 #[.string s, .string ⟨#[46]⟩] w fun e w' => e = .returned (.tuple #[.string a, .string b, .bool (Rf.cut46 s.data.toList).2.2]) ∧ ∃ n, w' = w.drewN n := by
  refine ⟨⟨(Rf.cut46 s.data.toList).1.toArray⟩, ⟨(Rf.cut46 s.data.toList).2.1.toArray⟩, rfl, rfl, fun w => (cut_any s hs w).mono ?_⟩
  rintro e w' ⟨a, b, rfl, ha, hb, n, rfl⟩
  refine ⟨?_, n, rfl⟩
  rw [← ha, ← hb]

/-- The text's parts are no digits, or too many. -/
def Bad (D : ByteArray → Int → Bool) (a b : ByteArray) (pt : Bool) : Prop := D a 12 = false ∨ D a 12 = true ∧ pt = true ∧ D b 3 = false

set_option maxRecDepth 100000 in
set_option maxHeartbeats 2000000 in
theorem parseSize_bad (s a b : ByteArray) (pt : Bool) (q1 : (s.toList == ([105, 110, 102] : List UInt8)) = false) (D : ByteArray → Int → Bool) (hbad : Bad D a b pt)
    (hc : ∀ w, Calls Try.prog 31 #[.string s, .string ⟨#[46]⟩] w fun e w' => e = .returned (.tuple #[.string a, .string b, .bool pt]) ∧ ∃ n, w' = w.drewN n)
    (hD : ∀ (x : ByteArray) (m : Int), (x = a ∨ x = b) → (m = 12 ∨ m = 3) → ∀ w, Calls Try.prog 32 #[.string x, .int .i64 m] w fun e w' => e = .returned (.bool (D x m)) ∧ Below w.heap.size w w') (w : World) :
    Calls Try.prog 24 #[.string s] w fun e w' => e = .returned (.tuple #[.float .f64 0, .int .i64 3]) ∧ Below w.heap.size w w' := by
  rcases hbad with h1 | ⟨h1, rfl, h3⟩
  · go_enter Try.func24, Try.ntmps24
    go_wp2_with fail
    go_at_call 31
    refine (hc _).mono ?_
    rintro e w1 ⟨rfl, n0, rfl⟩
    have hb1 := Lib.hid (grew_d w n0)
    generalize w.drewN n0 = w1 at *
    clear hc
    go_wp2_with fail
    go_at_call 32
    refine (hD _ _ (.inl rfl) (.inl rfl) _).mono ?_
    rintro e w2 ⟨rfl, hb2⟩
    have HB := Lib.hid (chain hb1.out hb2)
    clear hb2 hb1 hD
    go_wp2_with fail
    go_ret2
    exact ⟨rfl, HB.out⟩
  · go_enter Try.func24, Try.ntmps24
    go_wp2_with fail
    go_at_call 31
    refine (hc _).mono ?_
    rintro e w1 ⟨rfl, n0, rfl⟩
    have hb1 := Lib.hid (grew_d w n0)
    generalize w.drewN n0 = w1 at *
    clear hc
    go_wp2_with fail
    go_at_call 32
    refine (hD _ _ (.inl rfl) (.inl rfl) _).mono ?_
    rintro e w2 ⟨rfl, hb2⟩
    have HB := Lib.hid (chain hb1.out hb2)
    clear hb2 hb1
    go_wp2_with fail
    go_at_call 32
    refine (hD _ _ (.inr rfl) (.inr rfl) _).mono ?_
    rintro e w3 ⟨rfl, hb3⟩
    have HB3 := Lib.hid (chain HB.out hb3)
    clear hb3 HB hD
    go_wp2_with fail
    go_ret2
    exact ⟨rfl, HB3.out⟩

end Go.Proofs.Ythlbeehlcgnggaa

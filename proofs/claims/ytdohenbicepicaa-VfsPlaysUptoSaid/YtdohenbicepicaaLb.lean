/-
  The fixed answers of stage 4.
-/
import Derived.Test.YtdohenbicepicaaLa
namespace Go.Proofs.Ytdohenbicepicaa
open Go.RowKit Go.Maps

abbrev sA : ByteArray := ⟨#[97]⟩
abbrev sHi : ByteArray := ⟨#[104, 105]⟩
abbrev sB1 : ByteArray := ⟨#[98, 46, 49]⟩
theorem okA : Vf.okN sA = true := by decide
theorem okB1 : Vf.okN sB1 = true := by decide
def aw1 : Vf.Dk := ⟨[⟨1, ByteArray.empty, 0⟩], [⟨sA, 1⟩], [], 1, 1, -1, 0, false⟩
def aw2 : Vf.Dk := ⟨[⟨1, sHi, 0⟩], [⟨sA, 1⟩], [], 1, 2, -1, 0, false⟩
def aw3 : Vf.Dk := ⟨[⟨1, sHi, 0⟩], [⟨sB1, 1⟩], [], 1, 3, -1, 0, false⟩
theorem aw1_eq : Vf.create Vf.new sA = (0, aw1) := by
  unfold Vf.create Vf.first
  rw [okA]
  rfl
theorem find1 (s : ByteArray) (n : Nat) : Vf.find [⟨s, n⟩] s = n := by
  unfold Vf.find
  rw [if_pos (Vf.eqB_self _)]
theorem empty_app (s : ByteArray) : ByteArray.empty ++ s = s := by simp
theorem aw2_eq : Vf.append aw1 sA sHi = (0, aw2) := by
  unfold Vf.append Vf.change Vf.first
  rw [okA]
  have hf : Vf.find aw1.names sA = 1 := find1 _ _
  simp only [hf]
  show (0, _) = (0, _)
  congr 1
theorem link1 (s : ByteArray) : Vf.link [⟨s, 1⟩] s 0 = [] := by
  unfold Vf.link Vf.linkGo
  rw [if_pos (Vf.eqB_self _)]
  rfl
theorem aw3_eq : Vf.rename aw2 sA sB1 = (0, aw3) := by
  unfold Vf.rename Vf.first
  rw [okA, okB1]
  have hf : Vf.find aw2.names sA = 1 := find1 _ _
  have hl : Vf.link aw2.names sA 0 = [] := link1 _
  simp only [hf, hl]
  rfl
theorem aw_read : Vf.read aw3 sB1 = (sHi, 0) := by
  unfold Vf.read Vf.first
  rw [okB1]
  have hf : Vf.find aw3.names sB1 = 1 := find1 _ _
  simp only [hf]
  rfl
theorem aw_list : Vf.list aw3 = [sB1] := rfl

set_option maxRecDepth 100000 in
set_option maxHeartbeats 4000000 in
theorem awake_any (w : World) : Calls Try.prog 9 #[] w fun e w' => e = .returned (.bool true) ∧ Below w.heap.size w w' := by
  have hNew := Lib.hid (newP_any w)
  have ok0 := Vf.okU_new 2
  have ok1 : Vf.OkU aw1 1 2 := by have h := ok0.create sA; rw [aw1_eq] at h; exact h
  have ok2 : Vf.OkU aw2 2 2 := by have h := ok1.change sA sHi false (by decide); have e : Vf.change aw1 sA sHi false = (0, aw2) := aw2_eq; rw [e] at h; exact h
  have ok3 : Vf.OkU aw3 3 2 := by have h := ok2.rename sA sB1; rw [aw3_eq] at h; exact h
  -- one call behind the other
  have HN : Hid (∀ w1 p, w.heap.size ≤ p → PA w1 p Vf.new (fun k => w.heap.size ≤ k ∧ k < w1.heap.size) → Below w.heap.size w w1 →
      Calls Try.prog 13 #[.pointer (some ⟨p, 0, none⟩), .string sA] w1 fun e w2 => e = .returned (.int .i64 0) ∧ PA w2 p aw1 (fun k => w.heap.size ≤ k ∧ k < w2.heap.size) ∧ Below w.heap.size w w2) := by
    intro w1 p _ hA hB
    refine (createP_any w1 p Vf.new _ 0 2 sA hA ok0.ok (by omega) (by decide)).mono ?_
    rintro e w2 ⟨rfl, h2, h3⟩
    rw [aw1_eq] at h2 ⊢
    exact ⟨rfl, h2.more (fun k hk => by rcases hk with hk | hk <;> (have := h3.size; have := hB.size; omega)) (fun k hk => hk.2), KeptF.below hB h3 (fun k hk => hk.1) hB.size⟩
  have HA : Hid (∀ w1 p, PA w1 p aw1 (fun k => w.heap.size ≤ k ∧ k < w1.heap.size) → Below w.heap.size w w1 →
      Calls Try.prog 14 #[.pointer (some ⟨p, 0, none⟩), .string sA, .string sHi] w1 fun e w2 => e = .returned (.int .i64 0) ∧ PA w2 p aw2 (fun k => w.heap.size ≤ k ∧ k < w2.heap.size) ∧ Below w.heap.size w w2) := by
    intro w1 p hA hB
    refine (appendP_any w1 p aw1 _ 1 2 sA sHi hA ok1.ok (by omega) (by omega) (by decide) (by decide)).mono ?_
    rintro e w2 ⟨rfl, h2, h3⟩
    rw [aw2_eq] at h2 ⊢
    exact ⟨rfl, h2.more (fun k hk => by rcases hk with hk | hk <;> (have := h3.size; have := hB.size; omega)) (fun k hk => hk.2), KeptF.below hB h3 (fun k hk => hk.1) hB.size⟩
  have HR : Hid (∀ w1 p, PA w1 p aw2 (fun k => w.heap.size ≤ k ∧ k < w1.heap.size) → Below w.heap.size w w1 →
      Calls Try.prog 17 #[.pointer (some ⟨p, 0, none⟩), .string sA, .string sB1] w1 fun e w2 => e = .returned (.int .i64 0) ∧ PA w2 p aw3 (fun k => w.heap.size ≤ k ∧ k < w2.heap.size) ∧ Below w.heap.size w w2) := by
    intro w1 p hA hB
    refine (renameP_any w1 p aw2 _ 2 2 sA sB1 hA ok2.ok (by omega) (by decide) (by decide)).mono ?_
    rintro e w2 ⟨rfl, h2, h3⟩
    rw [aw3_eq] at h2 ⊢
    exact ⟨rfl, h2.more (fun k hk => by rcases hk with hk | hk <;> (have := h3.size; have := hB.size; omega)) (fun k hk => hk.2), KeptF.below hB h3 (fun k hk => hk.1) hB.size⟩
  have keepB : ∀ {w1 w2 : World} {p : Nat}, PA w1 p aw3 (fun k => w.heap.size ≤ k ∧ k < w1.heap.size) → Below w.heap.size w w1 → Below w1.heap.size w1 w2 → PA w2 p aw3 (fun k => w.heap.size ≤ k ∧ k < w2.heap.size) ∧ Below w.heap.size w w2 := by
    intro w1 w2 p hA hB h
    exact ⟨(hA.keep (fun k hk => h.block k hk.2) h.size).more (fun k hk => ⟨hk.1, Nat.lt_of_lt_of_le hk.2 h.size⟩) (fun k hk => hk.2), hB.trans (h.mono hB.size)⟩
  have HRd : Hid (∀ w1 p, PA w1 p aw3 (fun k => w.heap.size ≤ k ∧ k < w1.heap.size) → Below w.heap.size w w1 →
      Calls Try.prog 19 #[.pointer (some ⟨p, 0, none⟩), .string sB1] w1 fun e w2 => e = .returned (.tuple #[.string sHi, .int .i64 0]) ∧ PA w2 p aw3 (fun k => w.heap.size ≤ k ∧ k < w2.heap.size) ∧ Below w.heap.size w w2) := by
    intro w1 p hA hB
    refine (readP_any w1 p aw3 _ sB1 hA (by decide)).mono ?_
    rintro e w2 ⟨rfl, h2⟩
    rw [aw_read]
    exact ⟨rfl, keepB hA hB h2⟩
  have HSt : Hid (∀ w1 p, PA w1 p aw3 (fun k => w.heap.size ≤ k ∧ k < w1.heap.size) → Calls Try.prog 25 #[.pointer (some ⟨p, 0, none⟩)] w1 fun e w2 => e = .returned (.int .i64 3) ∧ w1 = w2) := fun w1 p hA => stepsP_any w1 p aw3 _ hA
  have HLi : Hid (∀ w1 p, PA w1 p aw3 (fun k => w.heap.size ≤ k ∧ k < w1.heap.size) → Below w.heap.size w w1 →
      Calls Try.prog 22 #[.pointer (some ⟨p, 0, none⟩)] w1 fun e w2 => ∃ a n c, e = .returned (.slice a n c) ∧ SView w2 (.slice a n c) [sB1] ∧ Below w.heap.size w w2) := by
    intro w1 p hA hB
    refine (listP_any w1 p aw3 _ 3 2 hA ok3.ok (by omega)).mono ?_
    rintro e w2 ⟨v, rfl, h2, h3⟩
    rw [aw_list] at h2
    obtain ⟨a, c, rfl⟩ := ownsRow_form h2
    exact ⟨a, _, c, rfl, h2.view (by simp), hB.trans (h3.mono hB.size)⟩
  have HSm : Hid (∀ w2 v, SView w2 v [sB1] → Below w.heap.size w w2 → Calls Try.prog 26 #[v, .slice (some ⟨w2.heap.size, 0, none⟩) 1 1] (w2.alloc (.cells #[.string sB1] 9)) fun e w3 => e = .returned (.bool true) ∧ Below w.heap.size w w3) := by
    intro w2 v hv hB
    have hb : Below w2.heap.size w2 (w2.alloc (.cells #[.string sB1] 9)) := (Below.refl _ _).alloc (Nat.le_refl _) _
    refine (same_any _ v _ [sB1] [sB1] (hv.below hb (Nat.le_refl _)) ⟨_, 1, rfl, by simp, fun _ => ⟨w2.heap.size, rfl, by simp, fun i hi => ?_⟩⟩).mono ?_
    · obtain rfl : i = 0 := by simpa using hi
      exact cell_new _ _ _ _ rfl
    · rintro e w3 ⟨rfl, h3⟩
      have hB2 := hB.trans (hb.mono hB.size)
      exact ⟨by simp, hB2.trans (h3.mono hB2.size)⟩
  clear ok0 ok1 ok2 ok3 keepB
  go_enter Try.func9, Try.ntmps9
  go_wp2_with (first | (go_at_call 8; go_loud ((refine hNew.out.mono ?_; rintro e1 w1 ⟨p, rfl, hp, hA, hB⟩; have h1 := Lib.hid (HN.out w1 p hp hA hB); clear hp hA hB))) | (go_at_call 13; go_loud ((refine h1.out.mono ?_; rintro e1 w2 ⟨rfl, hA, hB⟩; have h2 := Lib.hid (HA.out w2 p hA hB); clear hA hB))) | (go_at_call 14; go_loud ((refine h2.out.mono ?_; rintro e1 w3 ⟨rfl, hA, hB⟩; have h3 := Lib.hid (HR.out w3 p hA hB); clear hA hB))) | (go_at_call 17; go_loud ((refine h3.out.mono ?_; rintro e1 w4 ⟨rfl, hA, hB⟩; have h4 := Lib.hid (HRd.out w4 p hA hB); clear hA hB))) | (go_at_call 19; go_loud ((refine h4.out.mono ?_; rintro e1 w5 ⟨rfl, hA, hB⟩; have h5 := Lib.hid (HSt.out w5 p hA); have h6 := Lib.hid (HLi.out w5 p hA hB); clear hA hB))) | (go_at_call 25; go_loud ((refine h5.out.mono ?_; rintro e1 w6 ⟨rfl, rfl⟩))) | (go_at_call 22; go_loud ((refine h6.out.mono ?_; rintro e1 w7 ⟨a7, n7, c7, rfl, hv7, hB7⟩; have h7 := Lib.hid (HSm.out w7 _ hv7 hB7); clear hv7 hB7))) | (go_at_call 26; go_loud ((refine h7.out.mono ?_; rintro e1 w8 ⟨rfl, hB8⟩; have HB8 := Lib.hid hB8; clear hB8))))
  go_ret
  exact ⟨rfl, HB8.out⟩
end Go.Proofs.Ytdohenbicepicaa

/-
  The program's disk: the numbers of a loss; the names that it leaves.
-/
import Derived.Test.YtdohenbicepicaaWl
import Derived.Test.YtdohenbicepicaaVh
import Derived.OneCell
namespace Go.Proofs.Ytdohenbicepicaa
open Go.RowKit Go.Maps Go.Sort

theorem u64_wrap (loss : Int) (_h : -9223372036854775808 ≤ loss ∧ loss ≤ 9223372036854775807) : IntKind.u64.wrap loss = ((Vf.u64 loss : Nat) : Int) := by
  rw [IntKind.wrap_u64]
  unfold Vf.u64
  omega
set_option maxHeartbeats 1000000 in
/-- The next number of the row. -/
theorem row1_any (w : World) (ci : Nat) (cl : Addr) (k : Nat) (loss : Int) (hl : -9223372036854775808 ≤ loss ∧ loss ≤ 9223372036854775807) (hk : k ≤ 4294967296) (hci : w.cell? ⟨ci, 0, none⟩ = some (.int .u64 (k : Int))) (hfi : w.frozen? ⟨ci, 0, none⟩ = false) (hcl : w.cell? cl = some (.int .i64 loss)) (hne : cl.block ≠ ci) :
    Calls Try.prog 68 #[.pointer (some ⟨ci, 0, none⟩), .pointer (some cl)] w fun e w' => e = .returned (.int .u64 ((Vf.mix (Vf.u64 loss) (k + 1) : Nat) : Int)) ∧ w' = w.setCell ⟨ci, 0, none⟩ (.int .u64 ((k + 1 : Nat) : Int)) := by
  have hw := u64_wrap loss hl
  have hM : Hid (∀ w, Calls Try.prog 69 #[.int .u64 ((Vf.u64 loss : Nat) : Int), .int .u64 ((k + 1 : Nat) : Int)] w fun e' w' => e' = .returned (.int .u64 (Vf.mix (Vf.u64 loss) (k + 1) : Nat)) ∧ w = w') := fun w => mixP_any w (Vf.u64 loss) (k + 1)
  have hk1 : IntKind.u64.wrap ((k : Int) + 1) = ((k + 1 : Nat) : Int) := by rw [IntKind.wrap_u64]; omega
  have d0 : (w.setCell ⟨ci, 0, none⟩ (.int .u64 ((k + 1 : Nat) : Int))).cell? ⟨ci, 0, none⟩ = some (.int .u64 ((k + 1 : Nat) : Int)) := World.cell?_setCell_same _ _ _ hci
  have d1 : (w.setCell ⟨ci, 0, none⟩ (.int .u64 ((k + 1 : Nat) : Int))).cell? cl = some (.int .i64 loss) := (World.cell?_setCell_other _ _ _ _ (fun e => hne (by rw [← e]))).trans hcl
  generalize Vf.u64 loss = ul at *
  generalize Vf.mix ul (k + 1) = mx at *
  generalize hk2 : ((k + 1 : Nat) : Int) = k2 at *
  clear hk2 hk
  go_enter Try.func68, Try.ntmps68
  go_wp2_with (go_at_call 69; go_loud ((refine (hM.out _).mono ?_; rintro e1 w1 ⟨rfl, rfl⟩)))
  go_ret
  exact ⟨rfl, rfl⟩
set_option maxHeartbeats 1000000 in
theorem row_any (w : World) (loss : Int) :
    Calls Try.prog 50 #[.int .i64 loss] w fun e w' => e = .returned (.func (.func 68) #[] #[.pointer (some ⟨w.heap.size + 1, 0, none⟩), .pointer (some ⟨w.heap.size, 0, none⟩)]) ∧ w' = (w.alloc (.cells #[.int .i64 loss] 3)).alloc (.cells #[.int .u64 0] 90) := by
  go_enter Try.func50, Try.ntmps50
  go_wp2_with fail
  go_ret
  exact ⟨rfl, rfl⟩

/-- The names done so far lead where the picked ones do, the others where they did. -/
def LoseN (φ : Nat → Nat) (names all acc : List Vf.Lk) (i : Nat) (F : ByteArray → Option Nat) : Prop :=
  (∀ s, (∃ a ∈ all.take i, a.name = s) → F s = Vf.leads φ acc s) ∧ (∀ s, (¬ ∃ a ∈ all.take i, a.name = s) → F s = Vf.leads φ names s) ∧ (∀ b ∈ acc, ∃ a ∈ all.take i, a.name = b.name)
theorem loseN_start (φ : Nat → Nat) (names all : List Vf.Lk) : LoseN φ names all [] 0 (Vf.leads φ names) :=
  ⟨fun s h => by obtain ⟨a, ha, _⟩ := h; simp at ha, fun _ _ => rfl, fun b hb => by cases hb⟩
theorem rise_fresh {all : List Vf.Lk} (hr : Vf.Rise all) {i : Nat} (hi : i < all.length) : ¬ ∃ a ∈ all.take i, a.name = all[i].name := by
  rintro ⟨a, ha, hn⟩
  obtain ⟨j, hj, rfl⟩ := List.mem_iff_getElem.1 ha
  have hj' : j < i := by rw [List.length_take] at hj; omega
  have h := List.pairwise_iff_getElem.1 hr j i (by omega) hi hj'
  rw [List.getElem_take] at hn
  exact Vf.ltB_ne h hn
theorem loseN_step {φ : Nat → Nat} {names all acc : List Vf.Lk} {i : Nat} {F : ByteArray → Option Nat} (h : LoseN φ names all acc i F) (hr : Vf.Rise all) (hi : i < all.length) (x : Nat) :
    LoseN φ names all (if x ≠ 0 then acc ++ [⟨all[i].name, x⟩] else acc) (i + 1) (updF F all[i].name (if x = 0 then none else some (φ x))) := by
  obtain ⟨h1, h2, h3⟩ := h
  have hfresh := rise_fresh hr hi
  have hmem : ∀ s, (∃ a ∈ all.take (i + 1), a.name = s) ↔ s = all[i].name ∨ ∃ a ∈ all.take i, a.name = s := by
    intro s
    rw [List.take_succ_eq_append_getElem hi]
    constructor
    · rintro ⟨a, ha, rfl⟩
      rcases List.mem_append.1 ha with h | h
      · exact .inr ⟨a, h, rfl⟩
      · obtain rfl : a = all[i] := by simpa using h
        exact .inl rfl
    · rintro (rfl | ⟨a, ha, rfl⟩)
      · exact ⟨all[i], List.mem_append_right _ (List.mem_singleton.2 rfl), rfl⟩
      · exact ⟨a, List.mem_append_left _ ha, rfl⟩
  have hacc : ∀ b ∈ acc, b.name ≠ all[i].name := fun b hb e => hfresh (by obtain ⟨a, ha, hn⟩ := h3 b hb; exact ⟨a, ha, hn.trans e⟩)
  have hother : ∀ s, s ≠ all[i].name → Vf.leads φ (if x ≠ 0 then acc ++ [⟨all[i].name, x⟩] else acc) s = Vf.leads φ acc s := by
    intro s hs
    unfold Vf.leads
    split
    · rw [Vf.find_snoc_other (a := ⟨all[i].name, x⟩) hs]
    · rfl
  refine ⟨fun s hs => ?_, fun s hs => ?_, fun b hb => ?_⟩
  · unfold updF
    by_cases e : s = all[i].name
    · rw [if_pos e]
      subst e
      by_cases hx : x = 0
      · rw [if_pos hx, if_neg (by simp [hx])]
        unfold Vf.leads
        rw [if_pos (Vf.find_none hacc)]
      · rw [if_neg hx, if_pos hx]
        unfold Vf.leads
        have hf : Vf.find (acc ++ [⟨all[i].name, x⟩]) all[i].name = x := Vf.find_snoc_same (a := ⟨all[i].name, x⟩) hacc
        rw [hf, if_neg hx]
    · rw [if_neg e, hother s e]
      rcases (hmem s).1 hs with h | h
      · exact absurd h e
      · exact h1 s h
  · unfold updF
    have hs2 := fun h => hs ((hmem s).2 h)
    rw [if_neg (fun e => hs2 (.inl e))]
    exact h2 s (fun h => hs2 (.inr h))
  · refine (hmem b.name).2 ?_
    split at hb
    · rcases List.mem_append.1 hb with h | h
      · exact .inr (h3 b h)
      · obtain rfl : b = ⟨all[i].name, x⟩ := by simpa using h
        exact .inl rfl
    · exact .inr (h3 b hb)
theorem loseN_at {φ : Nat → Nat} {names all acc : List Vf.Lk} {i : Nat} {F : ByteArray → Option Nat} (h : LoseN φ names all acc i F) (hr : Vf.Rise all) (hi : i < all.length) : F all[i].name = Vf.leads φ names all[i].name := h.2.1 _ (rise_fresh hr hi)
theorem updF_self {F : ByteArray → Option Nat} {s : ByteArray} {o : Option Nat} (h : F s = o) (t : ByteArray) : F t = updF F s o t := by
  unfold updF
  by_cases e : t = s
  · rw [if_pos e, e, h]
  · rw [if_neg e]
theorem loseN_end {φ : Nat → Nat} {kept names all acc : List Vf.Lk} {F : ByteArray → Option Nat} (h : LoseN φ names all acc all.length F) (hall : ∀ s, (∃ x ∈ all, x.name = s) ↔ Vf.find kept s ≠ 0 ∨ Vf.find names s ≠ 0) (s : ByteArray) : F s = Vf.leads φ acc s := by
  obtain ⟨h1, h2, h3⟩ := h
  rw [List.take_length] at h1 h2 h3
  by_cases e : ∃ a ∈ all, a.name = s
  · exact h1 s e
  · rw [h2 s e]
    have e2 := fun h => e ((hall s).2 h)
    have h4 : Vf.find names s = 0 := Decidable.byContradiction fun h => e2 (.inr h)
    have h5 : Vf.find acc s = 0 := Vf.find_none fun b hb hn => e (by obtain ⟨a, ha, hn2⟩ := h3 b hb; exact ⟨a, ha, hn2.trans hn⟩)
    unfold Vf.leads
    rw [if_pos h4, if_pos h5]
/-- The list that rising answers is the list of all names. -/
theorem rising_all {kept names : List Vf.Lk} {φ : Nat → Nat} {L : List (List UInt8)} (hk : ∀ x ∈ kept, x.n ≠ 0) (hn : ∀ x ∈ names, x.n ≠ 0) (hr : Vf.Rise kept) (hL : L.Pairwise (· < ·)) (hm : ∀ x, x ∈ L ↔ (Vf.leads φ names (encBA x)).isSome = true ∨ (Vf.leads φ kept (encBA x)).isSome = true) :
    L = (Vf.allNames kept kept names).map (fun a => a.name.data.toList) := by
  obtain ⟨h1, h2⟩ := Vf.all_spec hk hn hr
  have hls : ∀ (l : List Vf.Lk) s, (Vf.leads φ l s).isSome = true ↔ Vf.find l s ≠ 0 := by
    intro l s
    unfold Vf.leads
    split <;> simp_all
  refine rising_one hL (List.pairwise_map.2 (List.Pairwise.imp (fun {a b} h => Vf.ltB_iff.1 h) h1)) fun x => ?_
  rw [hm x, hls, hls, or_comm, ← h2 (encBA x)]
  constructor
  · rintro ⟨a, ha, hn⟩
    exact List.mem_map.2 ⟨a, ha, by rw [hn]; simp [encBA]⟩
  · intro hx
    obtain ⟨a, ha, hx⟩ := List.mem_map.1 hx
    refine ⟨a, ha, ?_⟩
    subst hx
    cases a.name
    simp [encBA]
end Go.Proofs.Ytdohenbicepicaa

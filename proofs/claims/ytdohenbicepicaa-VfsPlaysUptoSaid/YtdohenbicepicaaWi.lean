/-
  The program's disk: SyncDir's closure; changeFile over each of its closures (made by gen_wi.py).
-/
import Derived.Test.YtdohenbicepicaaWh
namespace Go.Proofs.Ytdohenbicepicaa
open Go.RowKit Go.Maps

set_option maxRecDepth 100000 in
set_option maxHeartbeats 4000000 in
theorem syncDir1_any (w : World) (p mn ms : Nat) (φ : Nat → Nat) (ρ : Nat → Value) (D : Vf.Dk) (F : Nat → Prop) (a : Addr) (hA : PrA w p mn ms φ ρ D) (hF : ∀ k, PFoot p mn ms φ ρ D k → F k) (hl : ∀ k, F k → k < w.heap.size)
    (ha : w.cell? a = some (.pointer (some ⟨p, 0, none⟩))) :
    Calls Try.prog 47 #[.pointer (some a)] w (ClPost w p F (Vf.put D D.files D.names D.names D.last)) := by
  have d0 : w.cell? ⟨p, 0, none⟩ = some (.map (some mn)) := hA.row.cell 0
  have hM : Hid (MapA w.drew mn D.names.length (Vf.leads φ D.names)) := hA.now
  have hpl := hA.row.lt
  have hal : a.block < w.heap.size := by
    rcases Nat.lt_or_ge a.block w.heap.size with h | h
    · exact h
    · simp [World.cell?, Array.getElem?_eq_none h] at ha
  have HC : Hid (∀ w3 : World, MapA w3 w.heap.size D.names.length (Vf.leads φ D.names) → w.heap.size < w3.heap.size → Below w.heap.size w.drew w3 → (w3.cell? a = some (.pointer (some ⟨p, 0, none⟩)) ∧ w3.cell? ⟨p, 1, none⟩ = some (.map (some ms)) ∧ w3.frozen? ⟨p, 1, none⟩ = false) ∧
      ClPost w p F (Vf.put D D.files D.names D.names D.last) (.returned (.tuple #[])) (w3.setCell ⟨p, 1, none⟩ (.map (some w.heap.size)))) := by
    intro w3 hM3 hs3 hB3
    have hr3 : RowT 57 w3 p _ := hA.row.keep (hB3.block p hpl)
    refine ⟨⟨(hB3.cell (p := a) hal).trans ha, hr3.cell 1, hr3.frozen 1⟩, ?_⟩
    have hrow : RowT 57 (w3.setCell ⟨p, 1, none⟩ (.map (some w.heap.size))) p (prC mn w.heap.size D) := hr3.set 1 _
    have hP := hA.sured (w2 := w3.setCell ⟨p, 1, none⟩ (.map (some w.heap.size))) (Nat.le_refl _) _ (hM3.keep (heap_other _ _ _ _ _ (by omega))) hrow (fun k h1 h2 => (heap_other _ _ _ _ _ h1).trans (hB3.block k h2))
    refine ⟨rfl, ⟨mn, w.heap.size, φ, ρ, hP.1, ?_, fnew_lt hl ?_⟩, hB3.os, hB3.tape, hB3.output, ?_, fun k hk hf => (heap_other _ _ _ _ _ (fun e => hf (hF k (.inl e)))).trans (hB3.block k hk)⟩
    · intro k hk
      have hlt := hP.1.lt k hk
      rcases hk with rfl | rfl | rfl | ⟨m, hm, hk⟩
      · exact .inl (hF _ (.inl rfl))
      · exact .inl (hF _ (.inr (.inl rfl)))
      · exact .inr ⟨Nat.le_refl _, hlt⟩
      · exact .inl (hF _ (.inr (.inr (.inr ⟨m, hP.2 m hm, hk⟩))))
    · rw [setCell_size]; omega
    · rw [setCell_size]; omega
  clear hA hF hl hpl hal
  go_enter Try.func47, Try.ntmps47
  go_region_with (go_at_call 48; refine (cloneM_any w.drew mn _ _ hM.out).mono ?_; rintro e1 w3 ⟨rfl, hM3, hs3, hB3⟩; have hS3 := HC.out w3 hM3 hs3 hB3; obtain ⟨⟨q0, q1, q2⟩, hE⟩ := hS3; have HE := Lib.hid hE; clear hM3 hs3 hB3 hE)
  all_goals
    go_wp2_with fail
    go_end0
    exact HE.out

namespace Vf
def cfR (D : Dk) (s : ByteArray) (f : List Fl) (n k : List Lk) (l : Nat) : Int × Dk :=
  if first D (okN s) ≠ 0 then (first D (okN s), D) else if find D.names s = 0 then (11, D) else chgR D f n k l
end Vf
theorem PPost.of_below {w w2 w3 : World} {p : Nat} {F : Nat → Prop} {r : Int × Vf.Dk} {e : Ending} (hb : Below w.heap.size w w2) (h : PPost w2 p F r e w3) : PPost w p F r e w3 := by
  obtain ⟨h1, h2, h3⟩ := h
  have hl : ∀ k, FNew F w2 w3 k → k < w3.heap.size := by
    obtain ⟨_, _, _, _, _, _, h⟩ := h2
    exact h
  refine ⟨h1, h2.more (fun k hk => ?_) (fun k hk => ?_), (KeptF.of_below hb).trans h3⟩
  · rcases hk with hk | ⟨ha, hb2⟩
    · exact .inl hk
    · exact .inr ⟨Nat.le_trans hb.size ha, hb2⟩
  · rcases hk with hk | ⟨_, hb2⟩
    · exact hl k (.inl hk)
    · exact hb2

/-! ### append -/
set_option maxHeartbeats 1000000 in
theorem changeFile1_append (w : World) (a b : Addr) (c1 : Addr) (q : Value) (R : World → Prop) (ha : w.cell? a = some (.func (.func 45) #[] #[.pointer (some c1)])) (hb : w.cell? b = some q)
    (hC : Calls Try.prog 45 #[q, .pointer (some c1)] w fun e w' => e = .returned (.tuple #[]) ∧ R w') :
    Calls Try.prog 66 #[.pointer (some a), .pointer (some b)] w fun e w' => e = .returned (.tuple #[]) ∧ R w' := by
  have HC := Lib.hid hC
  clear hC
  go_enter Try.func66, Try.ntmps66
  go_wp2_with (go_at_call 45; refine HC.out.mono ?_; rintro e1 w1 ⟨rfl, h1⟩)
  go_end0
  exact ⟨rfl, h1⟩
theorem cfChange_append (w W : World) (p mn ms : Nat) (φ : Nat → Nat) (ρ : Nat → Value) (D : Vf.Dk) (F : Nat → Prop) (a b : Addr) (c1 : Addr) (f : List Vf.Fl) (n k : List Vf.Lk) (l fd : Nat)
    (hA : PrA w p mn ms φ ρ D) (hF : ∀ k, PFoot p mn ms φ ρ D k → F k) (hl : ∀ k, F k → k < w.heap.size) (hok : Vf.Fit D) (hB : Below w.heap.size w W) (ha : W.cell? a = some (.func (.func 45) #[] #[.pointer (some c1)])) (hb : W.cell? b = some (.pointer (some ⟨φ fd, 0, none⟩))) (hap : a.block ≠ p) (hbp : b.block ≠ p)
    (hC : ∀ w1, PrA w1 p mn ms φ ρ (Vf.dec D) → (∀ k, k ≠ p → k < w.heap.size → w1.heap[k]? = w.heap[k]?) → w.heap.size ≤ w1.heap.size → Calls Try.prog 45 #[.pointer (some ⟨φ fd, 0, none⟩), .pointer (some c1)] w1 (ClPost w1 p F (Vf.put (Vf.dec D) f n k l))) :
    Calls Try.prog 42 #[.pointer (some ⟨p, 0, none⟩), .func (.func 66) #[] #[.pointer (some a), .pointer (some b)]] W (PPost w p F (Vf.chgR D f n k l)) := by
  have hA1 := hA.keep (w' := W) fun k hk => hB.block k (hA.lt k hk)
  refine (change_file W p mn ms φ ρ D F a b f n k l hA1 hF (fun k hk => Nat.lt_of_lt_of_le (hl k hk) hB.size) hok fun w1 hp1 h1 h2 => ?_).mono fun e w' h => h.of_below hB
  refine changeFile1_append w1 a b c1 _ _ ?_ ?_ (hC w1 hp1 (fun k hk1 hk2 => (h1 k hk1).trans (hB.block k hk2)) (by rw [h2]; exact hB.size))
  · rw [World.cell?_of_block (h1 _ hap)]; exact ha
  · rw [World.cell?_of_block (h1 _ hbp)]; exact hb

set_option maxRecDepth 100000 in
set_option maxHeartbeats 4000000 in
theorem changeFile_append (w : World) (p mn ms : Nat) (φ : Nat → Nat) (ρ : Nat → Value) (D : Vf.Dk) (F : Nat → Prop) (s : ByteArray) (c1 : Addr) (f : List Vf.Fl) (n k : List Vf.Lk) (l : Nat)
    (hA : PrA w p mn ms φ ρ D) (hF : ∀ k, PFoot p mn ms φ ρ D k → F k) (hl : ∀ k, F k → k < w.heap.size) (hok : Vf.Fit D) (hs : s.size ≤ 9223372036854775807)
    (hC : Vf.okN s = true → Vf.find D.names s ≠ 0 → ∀ w1, PrA w1 p mn ms φ ρ (Vf.dec D) → (∀ k, k ≠ p → k < w.heap.size → w1.heap[k]? = w.heap[k]?) → w.heap.size ≤ w1.heap.size → Calls Try.prog 45 #[.pointer (some ⟨φ (Vf.find D.names s), 0, none⟩), .pointer (some c1)] w1 (ClPost w1 p F (Vf.put (Vf.dec D) f n k l))) :
    Calls Try.prog 44 #[.pointer (some ⟨p, 0, none⟩), .string s, .func (.func 45) #[] #[.pointer (some c1)]] w (PPost w p F (Vf.cfR D s f n k l)) := by
  have hB1 : Below w.heap.size w (w.alloc (.cells #[.func (.func 45) #[] #[.pointer (some c1)]] 75)) := (Below.refl _ _).alloc (Nat.le_refl _) _
  have hA1 := hA.keep (w' := w.alloc (.cells #[.func (.func 45) #[] #[.pointer (some c1)]] 75)) fun k hk => hB1.block k (hA.lt k hk)
  have hFd := findP_any _ p mn ms φ ρ D s hA1 hs
  have hcl : (w.alloc (.cells #[.func (.func 45) #[] #[.pointer (some c1)]] 75)).cell? ⟨w.heap.size, 0, none⟩ = some (.func (.func 45) #[] #[.pointer (some c1)]) := by simp
  have hsz1 : (w.alloc (.cells #[.func (.func 45) #[] #[.pointer (some c1)]] 75)).heap.size = w.heap.size + 1 := by simp
  have H : Hid (PA w p D F) := ⟨mn, ms, φ, ρ, hA, hF, hl⟩
  obtain ⟨R, hR⟩ : ∃ R, R = Vf.cfR D s f n k l := ⟨_, rfl⟩
  rw [← hR]
  unfold Vf.cfR at hR
  unfold findR at hFd
  generalize hw1 : w.alloc (.cells #[.func (.func 45) #[] #[.pointer (some c1)]] 75) = w1 at *
  by_cases h1 : Vf.first D (Vf.okN s) ≠ 0
  · rw [if_pos h1] at hR hFd
    have e1 : (Vf.first D (Vf.okN s) != 0) = true := by simpa using h1
    have HB1 := Lib.hid hB1
    have HFd := Lib.hid hFd
    subst hR
    clear h1 hC hA hA1 hF hl hB1 hFd hcl hsz1
    generalize Vf.first D (Vf.okN s) = fe at *
    go_enter Try.func44, Try.ntmps44
    go_wp2_with (first | (go_at_call 53; refine HFd.out.mono ?_; rintro e1 w2 ⟨rfl, hB2⟩; have HB2 := Lib.hid hB2; clear hB2; unfold ptrV))
    go_ret
    have hb := HB1.out.trans (HB2.out.mono HB1.out.size)
    exact PPost.same H.out ((hb.alloc (by first | exact hb.size) _))
  · rw [if_neg h1] at hR hFd
    have h1' : Vf.first D (Vf.okN s) = 0 := by simpa using h1
    have hokn := (first_ok h1').1
    clear h1
    by_cases h2 : Vf.find D.names s = 0
    · rw [if_pos h2] at hR hFd
      have HB1 := Lib.hid hB1
      have HFd := Lib.hid hFd
      subst hR
      clear h2 hC hA hA1 hF hl hB1 hFd hcl h1' hokn hsz1
      go_enter Try.func44, Try.ntmps44
      go_wp2_with (first | (go_at_call 53; refine HFd.out.mono ?_; rintro e1 w2 ⟨rfl, hB2⟩; have HB2 := Lib.hid hB2; clear hB2; unfold ptrV))
      go_ret
      have hb := HB1.out.trans (HB2.out.mono HB1.out.size)
      exact PPost.same H.out ((hb.alloc (by first | exact hb.size) _))
    · rw [if_neg h2] at hR hFd
      have hpl := hA.row.lt
      have HCC : Hid (∀ w2, Below w1.heap.size w1 w2 → Calls Try.prog 42 #[.pointer (some ⟨p, 0, none⟩), .func (.func 66) #[] #[.pointer (some ⟨w.heap.size, 0, none⟩), .pointer (some ⟨w2.heap.size, 0, none⟩)]] (w2.alloc (.cells #[.pointer (some ⟨φ (Vf.find D.names s), 0, none⟩)] 70)) (PPost w p F (Vf.chgR D f n k l))) := by
        intro w2 hB2
        have hb := hB1.trans (hB2.mono hB1.size)
        refine cfChange_append w _ p mn ms φ ρ D F _ _ c1 f n k l _ hA hF hl hok (hb.alloc hb.size _) ?_ (by simp) (by show w.heap.size ≠ p; omega) (by show w2.heap.size ≠ p; have := hb.size; omega) (hC hokn h2)
        exact Lib.cell?_alloc_some _ ((hB2.cell (p := ⟨w.heap.size, 0, none⟩) (by show w.heap.size < w1.heap.size; omega)).trans hcl)
      have HB1 := Lib.hid hB1
      have HFd := Lib.hid hFd
      subst hR
      clear h2 hC hA hA1 hF hl hB1 hFd hcl hpl hok h1' hokn hsz1
      generalize φ (Vf.find D.names s) = fd at *
      go_enter Try.func44, Try.ntmps44
      go_wp2_with (first | (go_at_call 53; refine HFd.out.mono ?_; rintro e1 w2 ⟨rfl, hB2⟩; have HB2 := Lib.hid hB2; clear hB2; unfold ptrV) | (go_at_call 42; go_loud ((refine (HCC.out w2 HB2.out).mono ?_; rintro e1 w4 ⟨rfl, h4⟩; have H4 := Lib.hid h4; clear h4))))
      go_ret
      exact ⟨rfl, H4.out⟩

/-! ### sync -/
set_option maxHeartbeats 1000000 in
theorem changeFile1_sync (w : World) (a b : Addr) (q : Value) (R : World → Prop) (ha : w.cell? a = some (.func (.func 46) #[] #[])) (hb : w.cell? b = some q)
    (hC : Calls Try.prog 46 #[q] w fun e w' => e = .returned (.tuple #[]) ∧ R w') :
    Calls Try.prog 66 #[.pointer (some a), .pointer (some b)] w fun e w' => e = .returned (.tuple #[]) ∧ R w' := by
  have HC := Lib.hid hC
  clear hC
  go_enter Try.func66, Try.ntmps66
  go_wp2_with (go_at_call 46; refine HC.out.mono ?_; rintro e1 w1 ⟨rfl, h1⟩)
  go_end0
  exact ⟨rfl, h1⟩
theorem cfChange_sync (w W : World) (p mn ms : Nat) (φ : Nat → Nat) (ρ : Nat → Value) (D : Vf.Dk) (F : Nat → Prop) (a b : Addr) (f : List Vf.Fl) (n k : List Vf.Lk) (l fd : Nat)
    (hA : PrA w p mn ms φ ρ D) (hF : ∀ k, PFoot p mn ms φ ρ D k → F k) (hl : ∀ k, F k → k < w.heap.size) (hok : Vf.Fit D) (hB : Below w.heap.size w W) (ha : W.cell? a = some (.func (.func 46) #[] #[])) (hb : W.cell? b = some (.pointer (some ⟨φ fd, 0, none⟩))) (hap : a.block ≠ p) (hbp : b.block ≠ p)
    (hC : ∀ w1, PrA w1 p mn ms φ ρ (Vf.dec D) → (∀ k, k ≠ p → k < w.heap.size → w1.heap[k]? = w.heap[k]?) → w.heap.size ≤ w1.heap.size → Calls Try.prog 46 #[.pointer (some ⟨φ fd, 0, none⟩)] w1 (ClPost w1 p F (Vf.put (Vf.dec D) f n k l))) :
    Calls Try.prog 42 #[.pointer (some ⟨p, 0, none⟩), .func (.func 66) #[] #[.pointer (some a), .pointer (some b)]] W (PPost w p F (Vf.chgR D f n k l)) := by
  have hA1 := hA.keep (w' := W) fun k hk => hB.block k (hA.lt k hk)
  refine (change_file W p mn ms φ ρ D F a b f n k l hA1 hF (fun k hk => Nat.lt_of_lt_of_le (hl k hk) hB.size) hok fun w1 hp1 h1 h2 => ?_).mono fun e w' h => h.of_below hB
  refine changeFile1_sync w1 a b  _ _ ?_ ?_ (hC w1 hp1 (fun k hk1 hk2 => (h1 k hk1).trans (hB.block k hk2)) (by rw [h2]; exact hB.size))
  · rw [World.cell?_of_block (h1 _ hap)]; exact ha
  · rw [World.cell?_of_block (h1 _ hbp)]; exact hb

set_option maxRecDepth 100000 in
set_option maxHeartbeats 4000000 in
theorem changeFile_sync (w : World) (p mn ms : Nat) (φ : Nat → Nat) (ρ : Nat → Value) (D : Vf.Dk) (F : Nat → Prop) (s : ByteArray) (f : List Vf.Fl) (n k : List Vf.Lk) (l : Nat)
    (hA : PrA w p mn ms φ ρ D) (hF : ∀ k, PFoot p mn ms φ ρ D k → F k) (hl : ∀ k, F k → k < w.heap.size) (hok : Vf.Fit D) (hs : s.size ≤ 9223372036854775807)
    (hC : Vf.okN s = true → Vf.find D.names s ≠ 0 → ∀ w1, PrA w1 p mn ms φ ρ (Vf.dec D) → (∀ k, k ≠ p → k < w.heap.size → w1.heap[k]? = w.heap[k]?) → w.heap.size ≤ w1.heap.size → Calls Try.prog 46 #[.pointer (some ⟨φ (Vf.find D.names s), 0, none⟩)] w1 (ClPost w1 p F (Vf.put (Vf.dec D) f n k l))) :
    Calls Try.prog 44 #[.pointer (some ⟨p, 0, none⟩), .string s, .func (.func 46) #[] #[]] w (PPost w p F (Vf.cfR D s f n k l)) := by
  have hB1 : Below w.heap.size w (w.alloc (.cells #[.func (.func 46) #[] #[]] 75)) := (Below.refl _ _).alloc (Nat.le_refl _) _
  have hA1 := hA.keep (w' := w.alloc (.cells #[.func (.func 46) #[] #[]] 75)) fun k hk => hB1.block k (hA.lt k hk)
  have hFd := findP_any _ p mn ms φ ρ D s hA1 hs
  have hcl : (w.alloc (.cells #[.func (.func 46) #[] #[]] 75)).cell? ⟨w.heap.size, 0, none⟩ = some (.func (.func 46) #[] #[]) := by simp
  have hsz1 : (w.alloc (.cells #[.func (.func 46) #[] #[]] 75)).heap.size = w.heap.size + 1 := by simp
  have H : Hid (PA w p D F) := ⟨mn, ms, φ, ρ, hA, hF, hl⟩
  obtain ⟨R, hR⟩ : ∃ R, R = Vf.cfR D s f n k l := ⟨_, rfl⟩
  rw [← hR]
  unfold Vf.cfR at hR
  unfold findR at hFd
  generalize hw1 : w.alloc (.cells #[.func (.func 46) #[] #[]] 75) = w1 at *
  by_cases h1 : Vf.first D (Vf.okN s) ≠ 0
  · rw [if_pos h1] at hR hFd
    have e1 : (Vf.first D (Vf.okN s) != 0) = true := by simpa using h1
    have HB1 := Lib.hid hB1
    have HFd := Lib.hid hFd
    subst hR
    clear h1 hC hA hA1 hF hl hB1 hFd hcl hsz1
    generalize Vf.first D (Vf.okN s) = fe at *
    go_enter Try.func44, Try.ntmps44
    go_wp2_with (first | (go_at_call 53; refine HFd.out.mono ?_; rintro e1 w2 ⟨rfl, hB2⟩; have HB2 := Lib.hid hB2; clear hB2; unfold ptrV))
    go_ret
    have hb := HB1.out.trans (HB2.out.mono HB1.out.size)
    exact PPost.same H.out ((hb.alloc (by first | exact hb.size) _))
  · rw [if_neg h1] at hR hFd
    have h1' : Vf.first D (Vf.okN s) = 0 := by simpa using h1
    have hokn := (first_ok h1').1
    clear h1
    by_cases h2 : Vf.find D.names s = 0
    · rw [if_pos h2] at hR hFd
      have HB1 := Lib.hid hB1
      have HFd := Lib.hid hFd
      subst hR
      clear h2 hC hA hA1 hF hl hB1 hFd hcl h1' hokn hsz1
      go_enter Try.func44, Try.ntmps44
      go_wp2_with (first | (go_at_call 53; refine HFd.out.mono ?_; rintro e1 w2 ⟨rfl, hB2⟩; have HB2 := Lib.hid hB2; clear hB2; unfold ptrV))
      go_ret
      have hb := HB1.out.trans (HB2.out.mono HB1.out.size)
      exact PPost.same H.out ((hb.alloc (by first | exact hb.size) _))
    · rw [if_neg h2] at hR hFd
      have hpl := hA.row.lt
      have HCC : Hid (∀ w2, Below w1.heap.size w1 w2 → Calls Try.prog 42 #[.pointer (some ⟨p, 0, none⟩), .func (.func 66) #[] #[.pointer (some ⟨w.heap.size, 0, none⟩), .pointer (some ⟨w2.heap.size, 0, none⟩)]] (w2.alloc (.cells #[.pointer (some ⟨φ (Vf.find D.names s), 0, none⟩)] 70)) (PPost w p F (Vf.chgR D f n k l))) := by
        intro w2 hB2
        have hb := hB1.trans (hB2.mono hB1.size)
        refine cfChange_sync w _ p mn ms φ ρ D F _ _  f n k l _ hA hF hl hok (hb.alloc hb.size _) ?_ (by simp) (by show w.heap.size ≠ p; omega) (by show w2.heap.size ≠ p; have := hb.size; omega) (hC hokn h2)
        exact Lib.cell?_alloc_some _ ((hB2.cell (p := ⟨w.heap.size, 0, none⟩) (by show w.heap.size < w1.heap.size; omega)).trans hcl)
      have HB1 := Lib.hid hB1
      have HFd := Lib.hid hFd
      subst hR
      clear h2 hC hA hA1 hF hl hB1 hFd hcl hpl hok h1' hokn hsz1
      generalize φ (Vf.find D.names s) = fd at *
      go_enter Try.func44, Try.ntmps44
      go_wp2_with (first | (go_at_call 53; refine HFd.out.mono ?_; rintro e1 w2 ⟨rfl, hB2⟩; have HB2 := Lib.hid hB2; clear hB2; unfold ptrV) | (go_at_call 42; go_loud ((refine (HCC.out w2 HB2.out).mono ?_; rintro e1 w4 ⟨rfl, h4⟩; have H4 := Lib.hid h4; clear h4))))
      go_ret
      exact ⟨rfl, H4.out⟩

/-! ### rename -/
set_option maxHeartbeats 1000000 in
theorem changeFile1_rename (w : World) (a b : Addr) (c1 c2 c3 : Addr) (q : Value) (R : World → Prop) (ha : w.cell? a = some (.func (.func 49) #[] #[.pointer (some c1), .pointer (some c2), .pointer (some c3)])) (hb : w.cell? b = some q)
    (hC : Calls Try.prog 49 #[q, .pointer (some c1), .pointer (some c2), .pointer (some c3)] w fun e w' => e = .returned (.tuple #[]) ∧ R w') :
    Calls Try.prog 66 #[.pointer (some a), .pointer (some b)] w fun e w' => e = .returned (.tuple #[]) ∧ R w' := by
  have HC := Lib.hid hC
  clear hC
  go_enter Try.func66, Try.ntmps66
  go_wp2_with (go_at_call 49; refine HC.out.mono ?_; rintro e1 w1 ⟨rfl, h1⟩)
  go_end0
  exact ⟨rfl, h1⟩
theorem cfChange_rename (w W : World) (p mn ms : Nat) (φ : Nat → Nat) (ρ : Nat → Value) (D : Vf.Dk) (F : Nat → Prop) (a b : Addr) (c1 c2 c3 : Addr) (f : List Vf.Fl) (n k : List Vf.Lk) (l fd : Nat)
    (hA : PrA w p mn ms φ ρ D) (hF : ∀ k, PFoot p mn ms φ ρ D k → F k) (hl : ∀ k, F k → k < w.heap.size) (hok : Vf.Fit D) (hB : Below w.heap.size w W) (ha : W.cell? a = some (.func (.func 49) #[] #[.pointer (some c1), .pointer (some c2), .pointer (some c3)])) (hb : W.cell? b = some (.pointer (some ⟨φ fd, 0, none⟩))) (hap : a.block ≠ p) (hbp : b.block ≠ p)
    (hC : ∀ w1, PrA w1 p mn ms φ ρ (Vf.dec D) → (∀ k, k ≠ p → k < w.heap.size → w1.heap[k]? = w.heap[k]?) → w.heap.size ≤ w1.heap.size → Calls Try.prog 49 #[.pointer (some ⟨φ fd, 0, none⟩), .pointer (some c1), .pointer (some c2), .pointer (some c3)] w1 (ClPost w1 p F (Vf.put (Vf.dec D) f n k l))) :
    Calls Try.prog 42 #[.pointer (some ⟨p, 0, none⟩), .func (.func 66) #[] #[.pointer (some a), .pointer (some b)]] W (PPost w p F (Vf.chgR D f n k l)) := by
  have hA1 := hA.keep (w' := W) fun k hk => hB.block k (hA.lt k hk)
  refine (change_file W p mn ms φ ρ D F a b f n k l hA1 hF (fun k hk => Nat.lt_of_lt_of_le (hl k hk) hB.size) hok fun w1 hp1 h1 h2 => ?_).mono fun e w' h => h.of_below hB
  refine changeFile1_rename w1 a b c1 c2 c3 _ _ ?_ ?_ (hC w1 hp1 (fun k hk1 hk2 => (h1 k hk1).trans (hB.block k hk2)) (by rw [h2]; exact hB.size))
  · rw [World.cell?_of_block (h1 _ hap)]; exact ha
  · rw [World.cell?_of_block (h1 _ hbp)]; exact hb

set_option maxRecDepth 100000 in
set_option maxHeartbeats 4000000 in
theorem changeFile_rename (w : World) (p mn ms : Nat) (φ : Nat → Nat) (ρ : Nat → Value) (D : Vf.Dk) (F : Nat → Prop) (s : ByteArray) (c1 c2 c3 : Addr) (f : List Vf.Fl) (n k : List Vf.Lk) (l : Nat)
    (hA : PrA w p mn ms φ ρ D) (hF : ∀ k, PFoot p mn ms φ ρ D k → F k) (hl : ∀ k, F k → k < w.heap.size) (hok : Vf.Fit D) (hs : s.size ≤ 9223372036854775807)
    (hC : Vf.okN s = true → Vf.find D.names s ≠ 0 → ∀ w1, PrA w1 p mn ms φ ρ (Vf.dec D) → (∀ k, k ≠ p → k < w.heap.size → w1.heap[k]? = w.heap[k]?) → w.heap.size ≤ w1.heap.size → Calls Try.prog 49 #[.pointer (some ⟨φ (Vf.find D.names s), 0, none⟩), .pointer (some c1), .pointer (some c2), .pointer (some c3)] w1 (ClPost w1 p F (Vf.put (Vf.dec D) f n k l))) :
    Calls Try.prog 44 #[.pointer (some ⟨p, 0, none⟩), .string s, .func (.func 49) #[] #[.pointer (some c1), .pointer (some c2), .pointer (some c3)]] w (PPost w p F (Vf.cfR D s f n k l)) := by
  have hB1 : Below w.heap.size w (w.alloc (.cells #[.func (.func 49) #[] #[.pointer (some c1), .pointer (some c2), .pointer (some c3)]] 75)) := (Below.refl _ _).alloc (Nat.le_refl _) _
  have hA1 := hA.keep (w' := w.alloc (.cells #[.func (.func 49) #[] #[.pointer (some c1), .pointer (some c2), .pointer (some c3)]] 75)) fun k hk => hB1.block k (hA.lt k hk)
  have hFd := findP_any _ p mn ms φ ρ D s hA1 hs
  have hcl : (w.alloc (.cells #[.func (.func 49) #[] #[.pointer (some c1), .pointer (some c2), .pointer (some c3)]] 75)).cell? ⟨w.heap.size, 0, none⟩ = some (.func (.func 49) #[] #[.pointer (some c1), .pointer (some c2), .pointer (some c3)]) := by simp
  have hsz1 : (w.alloc (.cells #[.func (.func 49) #[] #[.pointer (some c1), .pointer (some c2), .pointer (some c3)]] 75)).heap.size = w.heap.size + 1 := by simp
  have H : Hid (PA w p D F) := ⟨mn, ms, φ, ρ, hA, hF, hl⟩
  obtain ⟨R, hR⟩ : ∃ R, R = Vf.cfR D s f n k l := ⟨_, rfl⟩
  rw [← hR]
  unfold Vf.cfR at hR
  unfold findR at hFd
  generalize hw1 : w.alloc (.cells #[.func (.func 49) #[] #[.pointer (some c1), .pointer (some c2), .pointer (some c3)]] 75) = w1 at *
  by_cases h1 : Vf.first D (Vf.okN s) ≠ 0
  · rw [if_pos h1] at hR hFd
    have e1 : (Vf.first D (Vf.okN s) != 0) = true := by simpa using h1
    have HB1 := Lib.hid hB1
    have HFd := Lib.hid hFd
    subst hR
    clear h1 hC hA hA1 hF hl hB1 hFd hcl hsz1
    generalize Vf.first D (Vf.okN s) = fe at *
    go_enter Try.func44, Try.ntmps44
    go_wp2_with (first | (go_at_call 53; refine HFd.out.mono ?_; rintro e1 w2 ⟨rfl, hB2⟩; have HB2 := Lib.hid hB2; clear hB2; unfold ptrV))
    go_ret
    have hb := HB1.out.trans (HB2.out.mono HB1.out.size)
    exact PPost.same H.out ((hb.alloc (by first | exact hb.size) _))
  · rw [if_neg h1] at hR hFd
    have h1' : Vf.first D (Vf.okN s) = 0 := by simpa using h1
    have hokn := (first_ok h1').1
    clear h1
    by_cases h2 : Vf.find D.names s = 0
    · rw [if_pos h2] at hR hFd
      have HB1 := Lib.hid hB1
      have HFd := Lib.hid hFd
      subst hR
      clear h2 hC hA hA1 hF hl hB1 hFd hcl h1' hokn hsz1
      go_enter Try.func44, Try.ntmps44
      go_wp2_with (first | (go_at_call 53; refine HFd.out.mono ?_; rintro e1 w2 ⟨rfl, hB2⟩; have HB2 := Lib.hid hB2; clear hB2; unfold ptrV))
      go_ret
      have hb := HB1.out.trans (HB2.out.mono HB1.out.size)
      exact PPost.same H.out ((hb.alloc (by first | exact hb.size) _))
    · rw [if_neg h2] at hR hFd
      have hpl := hA.row.lt
      have HCC : Hid (∀ w2, Below w1.heap.size w1 w2 → Calls Try.prog 42 #[.pointer (some ⟨p, 0, none⟩), .func (.func 66) #[] #[.pointer (some ⟨w.heap.size, 0, none⟩), .pointer (some ⟨w2.heap.size, 0, none⟩)]] (w2.alloc (.cells #[.pointer (some ⟨φ (Vf.find D.names s), 0, none⟩)] 70)) (PPost w p F (Vf.chgR D f n k l))) := by
        intro w2 hB2
        have hb := hB1.trans (hB2.mono hB1.size)
        refine cfChange_rename w _ p mn ms φ ρ D F _ _ c1 c2 c3 f n k l _ hA hF hl hok (hb.alloc hb.size _) ?_ (by simp) (by show w.heap.size ≠ p; omega) (by show w2.heap.size ≠ p; have := hb.size; omega) (hC hokn h2)
        exact Lib.cell?_alloc_some _ ((hB2.cell (p := ⟨w.heap.size, 0, none⟩) (by show w.heap.size < w1.heap.size; omega)).trans hcl)
      have HB1 := Lib.hid hB1
      have HFd := Lib.hid hFd
      subst hR
      clear h2 hC hA hA1 hF hl hB1 hFd hcl hpl hok h1' hokn hsz1
      generalize φ (Vf.find D.names s) = fd at *
      go_enter Try.func44, Try.ntmps44
      go_wp2_with (first | (go_at_call 53; refine HFd.out.mono ?_; rintro e1 w2 ⟨rfl, hB2⟩; have HB2 := Lib.hid hB2; clear hB2; unfold ptrV) | (go_at_call 42; go_loud ((refine (HCC.out w2 HB2.out).mono ?_; rintro e1 w4 ⟨rfl, h4⟩; have H4 := Lib.hid h4; clear h4))))
      go_ret
      exact ⟨rfl, H4.out⟩

/-! ### remove -/
set_option maxHeartbeats 1000000 in
theorem changeFile1_remove (w : World) (a b : Addr) (c1 c2 : Addr) (q : Value) (R : World → Prop) (ha : w.cell? a = some (.func (.func 56) #[] #[.pointer (some c1), .pointer (some c2)])) (hb : w.cell? b = some q)
    (hC : Calls Try.prog 56 #[q, .pointer (some c1), .pointer (some c2)] w fun e w' => e = .returned (.tuple #[]) ∧ R w') :
    Calls Try.prog 66 #[.pointer (some a), .pointer (some b)] w fun e w' => e = .returned (.tuple #[]) ∧ R w' := by
  have HC := Lib.hid hC
  clear hC
  go_enter Try.func66, Try.ntmps66
  go_wp2_with (go_at_call 56; refine HC.out.mono ?_; rintro e1 w1 ⟨rfl, h1⟩)
  go_end0
  exact ⟨rfl, h1⟩
theorem cfChange_remove (w W : World) (p mn ms : Nat) (φ : Nat → Nat) (ρ : Nat → Value) (D : Vf.Dk) (F : Nat → Prop) (a b : Addr) (c1 c2 : Addr) (f : List Vf.Fl) (n k : List Vf.Lk) (l fd : Nat)
    (hA : PrA w p mn ms φ ρ D) (hF : ∀ k, PFoot p mn ms φ ρ D k → F k) (hl : ∀ k, F k → k < w.heap.size) (hok : Vf.Fit D) (hB : Below w.heap.size w W) (ha : W.cell? a = some (.func (.func 56) #[] #[.pointer (some c1), .pointer (some c2)])) (hb : W.cell? b = some (.pointer (some ⟨φ fd, 0, none⟩))) (hap : a.block ≠ p) (hbp : b.block ≠ p)
    (hC : ∀ w1, PrA w1 p mn ms φ ρ (Vf.dec D) → (∀ k, k ≠ p → k < w.heap.size → w1.heap[k]? = w.heap[k]?) → w.heap.size ≤ w1.heap.size → Calls Try.prog 56 #[.pointer (some ⟨φ fd, 0, none⟩), .pointer (some c1), .pointer (some c2)] w1 (ClPost w1 p F (Vf.put (Vf.dec D) f n k l))) :
    Calls Try.prog 42 #[.pointer (some ⟨p, 0, none⟩), .func (.func 66) #[] #[.pointer (some a), .pointer (some b)]] W (PPost w p F (Vf.chgR D f n k l)) := by
  have hA1 := hA.keep (w' := W) fun k hk => hB.block k (hA.lt k hk)
  refine (change_file W p mn ms φ ρ D F a b f n k l hA1 hF (fun k hk => Nat.lt_of_lt_of_le (hl k hk) hB.size) hok fun w1 hp1 h1 h2 => ?_).mono fun e w' h => h.of_below hB
  refine changeFile1_remove w1 a b c1 c2 _ _ ?_ ?_ (hC w1 hp1 (fun k hk1 hk2 => (h1 k hk1).trans (hB.block k hk2)) (by rw [h2]; exact hB.size))
  · rw [World.cell?_of_block (h1 _ hap)]; exact ha
  · rw [World.cell?_of_block (h1 _ hbp)]; exact hb

set_option maxRecDepth 100000 in
set_option maxHeartbeats 4000000 in
theorem changeFile_remove (w : World) (p mn ms : Nat) (φ : Nat → Nat) (ρ : Nat → Value) (D : Vf.Dk) (F : Nat → Prop) (s : ByteArray) (c1 c2 : Addr) (f : List Vf.Fl) (n k : List Vf.Lk) (l : Nat)
    (hA : PrA w p mn ms φ ρ D) (hF : ∀ k, PFoot p mn ms φ ρ D k → F k) (hl : ∀ k, F k → k < w.heap.size) (hok : Vf.Fit D) (hs : s.size ≤ 9223372036854775807)
    (hC : Vf.okN s = true → Vf.find D.names s ≠ 0 → ∀ w1, PrA w1 p mn ms φ ρ (Vf.dec D) → (∀ k, k ≠ p → k < w.heap.size → w1.heap[k]? = w.heap[k]?) → w.heap.size ≤ w1.heap.size → Calls Try.prog 56 #[.pointer (some ⟨φ (Vf.find D.names s), 0, none⟩), .pointer (some c1), .pointer (some c2)] w1 (ClPost w1 p F (Vf.put (Vf.dec D) f n k l))) :
    Calls Try.prog 44 #[.pointer (some ⟨p, 0, none⟩), .string s, .func (.func 56) #[] #[.pointer (some c1), .pointer (some c2)]] w (PPost w p F (Vf.cfR D s f n k l)) := by
  have hB1 : Below w.heap.size w (w.alloc (.cells #[.func (.func 56) #[] #[.pointer (some c1), .pointer (some c2)]] 75)) := (Below.refl _ _).alloc (Nat.le_refl _) _
  have hA1 := hA.keep (w' := w.alloc (.cells #[.func (.func 56) #[] #[.pointer (some c1), .pointer (some c2)]] 75)) fun k hk => hB1.block k (hA.lt k hk)
  have hFd := findP_any _ p mn ms φ ρ D s hA1 hs
  have hcl : (w.alloc (.cells #[.func (.func 56) #[] #[.pointer (some c1), .pointer (some c2)]] 75)).cell? ⟨w.heap.size, 0, none⟩ = some (.func (.func 56) #[] #[.pointer (some c1), .pointer (some c2)]) := by simp
  have hsz1 : (w.alloc (.cells #[.func (.func 56) #[] #[.pointer (some c1), .pointer (some c2)]] 75)).heap.size = w.heap.size + 1 := by simp
  have H : Hid (PA w p D F) := ⟨mn, ms, φ, ρ, hA, hF, hl⟩
  obtain ⟨R, hR⟩ : ∃ R, R = Vf.cfR D s f n k l := ⟨_, rfl⟩
  rw [← hR]
  unfold Vf.cfR at hR
  unfold findR at hFd
  generalize hw1 : w.alloc (.cells #[.func (.func 56) #[] #[.pointer (some c1), .pointer (some c2)]] 75) = w1 at *
  by_cases h1 : Vf.first D (Vf.okN s) ≠ 0
  · rw [if_pos h1] at hR hFd
    have e1 : (Vf.first D (Vf.okN s) != 0) = true := by simpa using h1
    have HB1 := Lib.hid hB1
    have HFd := Lib.hid hFd
    subst hR
    clear h1 hC hA hA1 hF hl hB1 hFd hcl hsz1
    generalize Vf.first D (Vf.okN s) = fe at *
    go_enter Try.func44, Try.ntmps44
    go_wp2_with (first | (go_at_call 53; refine HFd.out.mono ?_; rintro e1 w2 ⟨rfl, hB2⟩; have HB2 := Lib.hid hB2; clear hB2; unfold ptrV))
    go_ret
    have hb := HB1.out.trans (HB2.out.mono HB1.out.size)
    exact PPost.same H.out ((hb.alloc (by first | exact hb.size) _))
  · rw [if_neg h1] at hR hFd
    have h1' : Vf.first D (Vf.okN s) = 0 := by simpa using h1
    have hokn := (first_ok h1').1
    clear h1
    by_cases h2 : Vf.find D.names s = 0
    · rw [if_pos h2] at hR hFd
      have HB1 := Lib.hid hB1
      have HFd := Lib.hid hFd
      subst hR
      clear h2 hC hA hA1 hF hl hB1 hFd hcl h1' hokn hsz1
      go_enter Try.func44, Try.ntmps44
      go_wp2_with (first | (go_at_call 53; refine HFd.out.mono ?_; rintro e1 w2 ⟨rfl, hB2⟩; have HB2 := Lib.hid hB2; clear hB2; unfold ptrV))
      go_ret
      have hb := HB1.out.trans (HB2.out.mono HB1.out.size)
      exact PPost.same H.out ((hb.alloc (by first | exact hb.size) _))
    · rw [if_neg h2] at hR hFd
      have hpl := hA.row.lt
      have HCC : Hid (∀ w2, Below w1.heap.size w1 w2 → Calls Try.prog 42 #[.pointer (some ⟨p, 0, none⟩), .func (.func 66) #[] #[.pointer (some ⟨w.heap.size, 0, none⟩), .pointer (some ⟨w2.heap.size, 0, none⟩)]] (w2.alloc (.cells #[.pointer (some ⟨φ (Vf.find D.names s), 0, none⟩)] 70)) (PPost w p F (Vf.chgR D f n k l))) := by
        intro w2 hB2
        have hb := hB1.trans (hB2.mono hB1.size)
        refine cfChange_remove w _ p mn ms φ ρ D F _ _ c1 c2 f n k l _ hA hF hl hok (hb.alloc hb.size _) ?_ (by simp) (by show w.heap.size ≠ p; omega) (by show w2.heap.size ≠ p; have := hb.size; omega) (hC hokn h2)
        exact Lib.cell?_alloc_some _ ((hB2.cell (p := ⟨w.heap.size, 0, none⟩) (by show w.heap.size < w1.heap.size; omega)).trans hcl)
      have HB1 := Lib.hid hB1
      have HFd := Lib.hid hFd
      subst hR
      clear h2 hC hA hA1 hF hl hB1 hFd hcl hpl hok h1' hokn hsz1
      generalize φ (Vf.find D.names s) = fd at *
      go_enter Try.func44, Try.ntmps44
      go_wp2_with (first | (go_at_call 53; refine HFd.out.mono ?_; rintro e1 w2 ⟨rfl, hB2⟩; have HB2 := Lib.hid hB2; clear hB2; unfold ptrV) | (go_at_call 42; go_loud ((refine (HCC.out w2 HB2.out).mono ?_; rintro e1 w4 ⟨rfl, h4⟩; have H4 := Lib.hid h4; clear h4))))
      go_ret
      exact ⟨rfl, H4.out⟩
end Go.Proofs.Ytdohenbicepicaa

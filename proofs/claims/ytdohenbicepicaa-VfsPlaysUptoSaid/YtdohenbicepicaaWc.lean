/-
  The program's disk: made, armed, calmed, looked at; what is refused; which file a name stands for.
-/
import Derived.Test.YtdohenbicepicaaWb
namespace Go.Proofs.Ytdohenbicepicaa
open Go.RowKit Go.Maps

set_option maxHeartbeats 1000000 in
theorem newP_any (w : World) :
    Calls Try.prog 8 #[] w fun e' w' => ∃ p, e' = .returned (.pointer (some ⟨p, 0, none⟩)) ∧ w.heap.size ≤ p ∧ PA w' p Vf.new (fun k => w.heap.size ≤ k ∧ k < w'.heap.size) ∧ Below w.heap.size w w' := by
  have hmm := @run_makeMap Try.prog
  go_enter Try.func8, Try.ntmps8
  go_wp2_with fail
  go_ret
  have hB : Below w.heap.size w (((w.alloc (.map #[] 0)).alloc (.map #[] 0)).alloc (.cells #[.map (some w.heap.size), .map (some (w.heap.size + 1)), .int .i64 0, .bool false, .int .i64 0, .int .i64 0] 57)) :=
    (((Below.refl _ _).alloc (Nat.le_refl _) _).alloc (by simp) _).alloc (by simp; omega) _
  refine ⟨w.heap.size + 2, by first | rfl | simp, by omega, ⟨w.heap.size, w.heap.size + 1, fun _ => 0, fun _ => .slice none 0 0, ⟨?_, ?_, ?_, by omega, ?_, ?_, ?_⟩, ?_, ?_⟩, hB⟩
  · have h := heap_alloc_new ((w.alloc (.map #[] 0)).alloc (.map #[] 0)) (.cells #[.map (some w.heap.size), .map (some (w.heap.size + 1)), .int .i64 0, .bool false, .int .i64 0, .int .i64 0] 57)
    have e : ((w.alloc (.map #[] 0)).alloc (.map #[] 0)).heap.size = w.heap.size + 2 := by simp
    rw [e] at h
    exact h
  · refine ((mapA_made w).keep ?_).congr fun s => rfl
    rw [heap_alloc_old _ _ (by simp; omega), heap_alloc_old _ _ (by simp)]
  · have h := mapA_made (w.alloc (.map #[] 0))
    have e : (w.alloc (.map #[] 0)).heap.size = w.heap.size + 1 := by simp
    rw [e] at h
    refine (h.keep ?_).congr fun s => rfl
    rw [heap_alloc_old _ _ (by simp)]
  · rintro m ⟨x, hx | hx, _⟩ <;> cases hx
  · rintro m m' ⟨x, hx | hx, _⟩ <;> cases hx
  · rintro m m' k ⟨x, hx | hx, _⟩ <;> cases hx
  · rintro k (rfl | rfl | rfl | ⟨m, ⟨x, hx | hx, _⟩, _⟩)
    · simp
    · simp; omega
    · simp
    · cases hx
    · cases hx
  · intro k hk
    exact hk.2

set_option maxHeartbeats 1000000 in
theorem calmP_nil (w : World) : Calls Try.prog 23 #[.pointer none] w fun e' w' => e' = .returned (.tuple #[]) ∧ w = w' := by
  go_enter Try.func23, Try.ntmps23
  go_wp2_with fail
  go_end0
  exact ⟨rfl, rfl⟩
/-- The row alone turns. -/
theorem calmP_row (w : World) (p : Nat) (c0 c1 c2 c3 c4 c5 : Value) (h : RowT 57 w p #[c0, c1, c2, c3, c4, c5]) :
    Calls Try.prog 23 #[.pointer (some ⟨p, 0, none⟩)] w fun e' w' => e' = .returned (.tuple #[]) ∧ w' = (w.setCell ⟨p, 5, none⟩ (.int .i64 0)).setCell ⟨p, 4, none⟩ (.int .i64 0) := by
  have d5 : w.cell? ⟨p, 5, none⟩ = some c5 := h.cell 5
  have d4 : w.cell? ⟨p, 4, none⟩ = some c4 := h.cell 4
  have f5 := h.frozen 5
  have f4 := h.frozen 4
  clear h
  go_enter Try.func23, Try.ntmps23
  go_wp2_with fail
  go_end0
  exact ⟨rfl, rfl⟩

/-- The disk's row has turned, its maps and files not. -/
theorem PrA.turn {w w' : World} {p mn ms : Nat} {φ : Nat → Nat} {ρ : Nat → Value} {D D' : Vf.Dk} (h : PrA w p mn ms φ ρ D) (hr : RowT 57 w' p (prC mn ms D')) (e : ∀ k, k ≠ p → w'.heap[k]? = w.heap[k]?) (h1 : D'.files = D.files) (h2 : D'.names = D.names) (h3 : D'.kept = D.kept) : PrA w' p mn ms φ ρ D' := by
  have hl : ∀ m, Vf.Live D' m ↔ Vf.Live D m := fun m => by unfold Vf.Live; rw [h2, h3]
  have hrow := h.row
  have hmn : mn ≠ p := fun he => by
    subst he
    obtain ⟨_, ⟨es, clock, hb, _⟩, _⟩ := h.now
    unfold RowT at hrow
    rw [hb] at hrow
    cases hrow
  have hms : ms ≠ p := fun he => by
    subst he
    obtain ⟨_, ⟨es, clock, hb, _⟩, _⟩ := h.sure
    unfold RowT at hrow
    rw [hb] at hrow
    cases hrow
  refine ⟨hr, ?_, ?_, h.ne, ?_, ?_, ?_⟩
  · rw [h2]; exact h.now.keep (e _ hmn)
  · rw [h3]; exact h.sure.keep (e _ hms)
  · intro m hm
    rw [h1]
    have hf := h.file m ((hl m).1 hm)
    refine hf.keep (e _ fun he => ?_) fun k hk => e k fun he => ?_
    · have hf1 := hf.1
      unfold RowT at hf1 hrow
      rw [he, hrow] at hf1
      simp at hf1
    · subst he
      rcases hf.2.2 with ⟨hv, _⟩ | ⟨g, cap, cur, hv, _, hh, _⟩
      · rw [hv] at hk; cases hk
      · rw [hv] at hk
        obtain rfl : g = k := by simpa [Value.ownBlock] using hk
        unfold RowT at hrow
        rw [hrow] at hh
        simp at hh
  · intro m m' hm hm'
    exact h.inj m m' ((hl m).1 hm) ((hl m').1 hm')
  · intro m m' k hm hm'
    exact h.apart m m' k ((hl m).1 hm) ((hl m').1 hm')
theorem PFoot.turn {p mn ms : Nat} {φ : Nat → Nat} {ρ : Nat → Value} {D D' : Vf.Dk} {k : Nat} (h : PFoot p mn ms φ ρ D' k) (h2 : D'.names = D.names) (h3 : D'.kept = D.kept) : PFoot p mn ms φ ρ D k := by
  unfold PFoot Vf.Live at *
  rw [h2, h3] at h
  exact h
/-- So too with its blocks named. -/
theorem PA.turned {w w' : World} {p mn ms : Nat} {φ : Nat → Nat} {ρ : Nat → Value} {D D' : Vf.Dk} {F : Nat → Prop} (h : PrA w p mn ms φ ρ D) (hF : ∀ k, PFoot p mn ms φ ρ D k → F k) (hl : ∀ k, F k → k < w.heap.size)
    (hr : RowT 57 w' p (prC mn ms D')) (e : ∀ k, k ≠ p → w'.heap[k]? = w.heap[k]?) (hs : w'.heap.size = w.heap.size) (h1 : D'.files = D.files) (h2 : D'.names = D.names) (h3 : D'.kept = D.kept) : PA w' p D' F :=
  ⟨mn, ms, φ, ρ, h.turn hr e h1 h2 h3, fun k hk => hF k (hk.turn h2 h3), fun k hk => by rw [hs]; exact hl k hk⟩
theorem faultC_neg {D : Vf.Dk} (h : D.armed = -1) : Vf.faultC D = 0 ∧ Vf.leftC D = 0 := by
  unfold Vf.faultC Vf.leftC
  rw [h]
  exact ⟨rfl, rfl⟩
theorem PA.p_in {w : World} {p mn ms : Nat} {φ : Nat → Nat} {ρ : Nat → Value} {D : Vf.Dk} {F : Nat → Prop} (_h : PrA w p mn ms φ ρ D) (hF : ∀ k, PFoot p mn ms φ ρ D k → F k) : F p := hF p (.inl rfl)

theorem calmP_any (w : World) (p : Nat) (D : Vf.Dk) (F : Nat → Prop) (h : PA w p D F) :
    Calls Try.prog 23 #[.pointer (some ⟨p, 0, none⟩)] w fun e' w' => e' = .returned (.tuple #[]) ∧ PA w' p (Vf.calm D) F ∧ KeptF F w w' ∧ w'.heap.size = w.heap.size := by
  obtain ⟨mn, ms, φ, ρ, hA, hF, hl⟩ := h
  refine (calmP_row w p _ _ _ _ _ _ hA.row).mono ?_
  rintro e' w' ⟨rfl, rfl⟩
  have hp := PA.p_in hA hF
  refine ⟨rfl, PA.turned hA hF hl ?_ (fun k hk => ?_) ?_ rfl rfl rfl, ((KeptF.refl F w).set p 5 hp _).set p 4 hp _, ?_⟩
  · exact (hA.row.set 5 _).set 4 _
  · rw [heap_other _ _ _ _ _ hk, heap_other _ _ _ _ _ hk]
  · rw [setCell_size, setCell_size]
  · rw [setCell_size, setCell_size]

set_option maxRecDepth 100000 in
set_option maxHeartbeats 1000000 in
theorem armP_any (w : World) (p : Nat) (D : Vf.Dk) (F : Nat → Prop) (n e : Int) (h : PA w p D F) :
    Calls Try.prog 20 #[.pointer (some ⟨p, 0, none⟩), .int .i64 n, .int .i64 e] w (PPost w p F (Vf.arm D n e)) := by
  have hI := Lib.hid (isFaultP_any w e)
  obtain ⟨mn, ms, φ, ρ, hA, hF, hl⟩ := h
  have H : Hid (PA w p D F) := ⟨mn, ms, φ, ρ, hA, hF, hl⟩
  have d5 : w.cell? ⟨p, 5, none⟩ = some (.int .i64 (Vf.leftC D)) := hA.row.cell 5
  have d4 : w.cell? ⟨p, 4, none⟩ = some (.int .i64 (Vf.faultC D)) := hA.row.cell 4
  have f5 := hA.row.frozen 5
  have f4 := hA.row.frozen 4
  by_cases hn : n < 0
  · have hR : Hid (Vf.arm D n e = (1, D)) := by show _ = _; unfold Vf.arm; rw [if_pos (.inl hn)]
    clear hA hF hl
    go_enter Try.func20, Try.ntmps20
    go_wp2_with (go_at_call 54; refine hI.out.mono ?_; rintro e1 w1 ⟨rfl, rfl⟩)
    go_ret
    rw [hR.out]
    exact PPost.same H.out (Below.refl _ _)
  · by_cases he : isFaultB e = true
    · have hR : Hid (Vf.arm D n e = (0, { D with armed := n, fault := e })) := by
        show _ = _
        unfold Vf.arm
        unfold isFaultB at he
        simp only [Bool.or_eq_true, decide_eq_true_eq] at he
        rw [if_neg (by omega)]
      rw [he] at hI
      have hp := PA.p_in hA hF
      have hT : Hid (PA ((w.setCell ⟨p, 5, none⟩ (.int .i64 n)).setCell ⟨p, 4, none⟩ (.int .i64 e)) p { D with armed := n, fault := e } F) := by
        refine PA.turned hA hF hl ?_ (fun k hk => ?_) ?_ rfl rfl rfl
        · have h := (hA.row.set 5 (.int .i64 n)).set 4 (.int .i64 e)
          have e1 : prC mn ms { D with armed := n, fault := e } = #[.map (some mn), .map (some ms), .int .i64 (D.steps : Int), .bool D.down, .int .i64 e, .int .i64 n] := by
            unfold prC Vf.faultC Vf.leftC
            simp only [if_neg hn]
          rw [e1]
          exact h
        · rw [heap_other _ _ _ _ _ hk, heap_other _ _ _ _ _ hk]
        · rw [setCell_size, setCell_size]
      have hK : Hid (KeptF F w ((w.setCell ⟨p, 5, none⟩ (.int .i64 n)).setCell ⟨p, 4, none⟩ (.int .i64 e))) := ((KeptF.refl F w).set p 5 hp _).set p 4 hp _
      clear hA hF hl he hp
      generalize Vf.leftC D = lc at *
      generalize Vf.faultC D = fc at *
      go_enter Try.func20, Try.ntmps20
      go_wp2_with (go_at_call 54; refine hI.out.mono ?_; rintro e1 w1 ⟨rfl, rfl⟩)
      go_ret
      rw [hR.out]
      exact ⟨rfl, hT.out.more (fun k hk => .inl hk) (FNew.lt H.out hK.out.size), hK.out⟩
    · have he' : isFaultB e = false := by simpa using he
      have hR : Hid (Vf.arm D n e = (1, D)) := by
        show _ = _
        unfold Vf.arm
        unfold isFaultB at he'
        simp only [Bool.or_eq_false_iff, decide_eq_false_iff_not] at he'
        rw [if_pos (by omega)]
      rw [he'] at hI
      clear hA hF hl he he'
      go_enter Try.func20, Try.ntmps20
      go_wp2_with (go_at_call 54; refine hI.out.mono ?_; rintro e1 w1 ⟨rfl, rfl⟩)
      go_ret
      rw [hR.out]
      exact PPost.same H.out (Below.refl _ _)

theorem stepsP_any (w : World) (p : Nat) (D : Vf.Dk) (F : Nat → Prop) (h : PA w p D F) :
    Calls Try.prog 25 #[.pointer (some ⟨p, 0, none⟩)] w fun e' w' => e' = .returned (.int .i64 (D.steps : Int)) ∧ w = w' := by
  obtain ⟨mn, ms, φ, ρ, hA, hF, hl⟩ := h
  have d2 : w.cell? ⟨p, 2, none⟩ = some (.int .i64 (D.steps : Int)) := hA.row.cell 2
  clear hA hF hl
  go_enter Try.func25, Try.ntmps25
  go_wp2_with fail
  go_ret
  exact ⟨rfl, rfl⟩
theorem downP_any (w : World) (p : Nat) (D : Vf.Dk) (F : Nat → Prop) (h : PA w p D F) :
    Calls Try.prog 21 #[.pointer (some ⟨p, 0, none⟩)] w fun e' w' => e' = .returned (.bool D.down) ∧ w = w' := by
  obtain ⟨mn, ms, φ, ρ, hA, hF, hl⟩ := h
  have d3 : w.cell? ⟨p, 3, none⟩ = some (.bool D.down) := hA.row.cell 3
  clear hA hF hl
  go_enter Try.func21, Try.ntmps21
  go_wp2_with fail
  go_ret
  exact ⟨rfl, rfl⟩

set_option maxHeartbeats 1000000 in
theorem refusalP_none (w : World) (p : Nat) (D : Vf.Dk) (c0 c1 c2 c4 c5 : Value) (h : RowT 57 w p #[c0, c1, c2, .bool D.down, c4, c5]) :
    Calls Try.prog 41 #[.pointer (some ⟨p, 0, none⟩), .slice none 0 0] w fun e' w' => e' = .returned (.int .i64 (Vf.first D true)) ∧ w = w' := by
  have d3 : w.cell? ⟨p, 3, none⟩ = some (.bool D.down) := h.cell 3
  clear h
  unfold Vf.first
  generalize D.down = dn at *
  cases dn
  all_goals
    go_enter Try.func41, Try.ntmps41
    go_wp2_with fail
    refine wp_loop_rounds 1 ?_
    rw [rounds_succ]
    go_wp2_with fail
    go_ret
    exact ⟨rfl, rfl⟩
set_option maxHeartbeats 1000000 in
theorem refusalP_one (w : World) (p : Nat) (D : Vf.Dk) (c0 c1 c2 c4 c5 : Value) (h : RowT 57 w p #[c0, c1, c2, .bool D.down, c4, c5]) (g : Nat) (s : ByteArray) (hg : w.cell? ⟨g, 0, none⟩ = some (.string s)) (hs : s.size ≤ 9223372036854775807) :
    Calls Try.prog 41 #[.pointer (some ⟨p, 0, none⟩), .slice (some ⟨g, 0, none⟩) 1 1] w fun e' w' => e' = .returned (.int .i64 (Vf.first D (Vf.okN s))) ∧ w = w' := by
  have d3 : w.cell? ⟨p, 3, none⟩ = some (.bool D.down) := h.cell 3
  have hN := Lib.hid (nameP_any w s hs)
  clear h
  unfold Vf.first
  generalize Vf.okN s = ok at *
  generalize D.down = dn at *
  cases ok
  · go_enter Try.func41, Try.ntmps41
    go_wp2_with fail
    refine wp_loop_rounds 1 ?_
    rw [rounds_succ]
    go_wp2_with (go_at_call 37; refine hN.out.mono ?_; rintro e1 w1 ⟨rfl, rfl⟩)
    go_ret
    exact ⟨rfl, rfl⟩
  · cases dn
    all_goals
      go_enter Try.func41, Try.ntmps41
      go_wp2_with fail
      refine wp_loop_rounds 2 ?_
      rw [rounds_succ]
      go_wp2_with (go_at_call 37; refine hN.out.mono ?_; rintro e1 w1 ⟨rfl, rfl⟩)
      rw [rounds_succ]
      go_wp2_with fail
      go_ret
      exact ⟨rfl, rfl⟩
end Go.Proofs.Ytdohenbicepicaa

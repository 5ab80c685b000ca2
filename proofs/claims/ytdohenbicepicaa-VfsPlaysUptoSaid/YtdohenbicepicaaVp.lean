/-
  What the given disk's Rename, SyncDir, Read, List, Arm and New do.
-/
import Derived.Test.YtdohenbicepicaaVo
import Derived.Deep.RegionWith
namespace Go.Proofs.Ytdohenbicepicaa
open Go.RowKit

theorem belowN {B : Nat} {a w : World} (h : Below B a w) (n : Nat) : Below B a (w.drewN n) := h.trans ⟨rfl, rfl, rfl, Nat.le_refl _, fun _ _ => rfl⟩

set_option maxRecDepth 100000 in
set_option maxHeartbeats 2000000 in
theorem renameR_any (w : World) (b : Nat) (vf vn vk : Value) (D : Vf.Dk) (s t : ByteArray) (h : RefA w b vf vn vk D) (hs : D.steps ≤ 4611686018427387904) (ha : -1 ≤ D.armed ∧ D.armed ≤ 9223372036854775807) (hn : D.names.length ≤ 536870912) (hl : ∀ n, (Vf.link D.names s n).length ≤ 1073741824) :
    Calls Try.prog 30 #[.pointer (some ⟨b, 0, none⟩), .string s, .string t] w (OpPost w b vf vn vk (Vf.rename D s t)) := by
  have hN : Hid (∀ (w : World) (s : ByteArray), _) := nameR_any
  have hF := Lib.hid (firstR_any w b vf vn vk D (Vf.okN s && Vf.okN t) h)
  have hFi := Lib.hid (find_any w vn D.names s (OwnK.lks h.names))
  have hD := Lib.hid (doneR_any w b vf vn vk D h hs ha)
  have c1 : w.cell? ⟨b, 1, none⟩ = some vn := h.row.cell 1
  have H := Lib.hid h
  obtain ⟨R, hR⟩ : ∃ R, R = Vf.rename D s t := ⟨_, rfl⟩
  rw [← hR]
  unfold Vf.rename at hR
  have hnx : Hid (∀ w, Calls Try.prog 38 #[.string s] w fun e' w' => e' = .returned (.bool (Vf.okN s)) ∧ w = w') := fun w => nameR_any w s
  have hny : Hid (∀ w, Calls Try.prog 38 #[.string t] w fun e' w' => e' = .returned (.bool (Vf.okN t)) ∧ w = w') := fun w => nameR_any w t
  clear h hN
  obtain ⟨ok1, hk1⟩ : ∃ ok1, ok1 = Vf.okN s := ⟨_, rfl⟩
  obtain ⟨ok2, hk2⟩ : ∃ ok2, ok2 = Vf.okN t := ⟨_, rfl⟩
  rw [← hk1] at hnx hF hR
  rw [← hk2] at hny hF hR
  clear hk1 hk2

  by_cases h1 : Vf.first D (ok1 && ok2) ≠ 0
  · rw [if_pos h1] at hR
    have e1 : (Vf.first D (ok1 && ok2) != 0) = true := by simpa using h1
    subst hR
    clear h1
    generalize Vf.first D (ok1 && ok2) = fe at *
    cases ok1 <;> cases ok2
    all_goals
      go_enter Try.func30, Try.ntmps30
      go_wp2_with (first | (go_at_call_of 38 (Value.string s); refine (hnx.out _).mono ?_; rintro e1 w1 ⟨rfl, rfl⟩) | (go_at_call_of 38 (Value.string t); refine (hny.out _).mono ?_; rintro e1 w1 ⟨rfl, rfl⟩) | (go_at_call 57; refine hF.out.mono ?_; rintro e1 w1 ⟨rfl, rfl⟩))
      go_ret
      exact OpPost.same H.out (kept_refl _ _)
  · rw [if_neg h1] at hR
    have h1' : Vf.first D (ok1 && ok2) = 0 := by simpa using h1
    have hok : ok1 = true ∧ ok2 = true := by
      unfold Vf.first at h1'
      cases ok1 <;> cases ok2 <;> simp at h1' ⊢
    obtain ⟨rfl, rfl⟩ := hok
    rw [h1'] at hF
    clear h1 h1'
    by_cases h2 : Vf.find D.names s = 0
    · rw [if_pos h2] at hR
      rw [h2] at hFi
      subst hR
      clear h2
      go_enter Try.func30, Try.ntmps30
      go_wp2_with (first | (go_at_call_of 38 (Value.string s); refine (hnx.out _).mono ?_; rintro e1 w1 ⟨rfl, rfl⟩) | (go_at_call_of 38 (Value.string t); refine (hny.out _).mono ?_; rintro e1 w1 ⟨rfl, rfl⟩) | (go_at_call 57; refine hF.out.mono ?_; rintro e1 w1 ⟨rfl, rfl⟩) | (go_at_call 61; refine hFi.out.mono ?_; rintro e1 w1 ⟨rfl, rfl⟩))
      go_ret
      exact OpPost.same H.out (kept_refl _ _)
    · rw [if_neg h2] at hR
      have e2 : ((Vf.find D.names s : Int) == 0) = false := by simp; omega
      clear h2
      generalize Vf.find D.names s = fd at *
      by_cases h3 : (Vf.done D).1 ≠ 0
      · rw [if_pos h3] at hR
        have e3 : ((Vf.done D).1 == 0) = false := by simpa using h3
        subst hR
        clear h3
        generalize Vf.done D = dd at *
        obtain ⟨de, D1⟩ := dd
        simp only at e3 hD
        go_enter Try.func30, Try.ntmps30
        go_wp2_with (first | (go_at_call_of 38 (Value.string s); refine (hnx.out _).mono ?_; rintro e1 w1 ⟨rfl, rfl⟩) | (go_at_call_of 38 (Value.string t); refine (hny.out _).mono ?_; rintro e1 w1 ⟨rfl, rfl⟩) | (go_at_call 57; refine hF.out.mono ?_; rintro e1 w1 ⟨rfl, rfl⟩) | (go_at_call 61; refine hFi.out.mono ?_; rintro e1 w1 ⟨rfl, rfl⟩) | (go_at_call 58; refine hD.out.mono ?_; rintro e1 w1 ⟨rfl, hA1, hK1⟩;  have HA1 := Lib.hid hA1; have HK1 := Lib.hid hK1; clear hA1 hK1))
        go_ret
        exact OpPost.same HA1.out HK1.out
      · rw [if_neg h3] at hR
        have h3' : (Vf.done D).1 = 0 := by simpa using h3
        rw [h3'] at hD
        have hnm : (Vf.done D).2.names = D.names := by unfold Vf.done; split <;> rfl
        subst hR
        clear h3 h3'
        generalize (Vf.done D).2 = D1 at *
        rw [← hnm] at hn hl ⊢
        clear hnm
        have HL := Lib.hid hl
        clear hl
        obtain ⟨L1, hL1⟩ : ∃ L1, L1 = Vf.link D1.names s 0 := ⟨_, rfl⟩
        have hL1n : L1.length ≤ 1073741824 := by rw [hL1]; exact HL.out 0
        rw [← hL1]
        have HL1 := Lib.hid hL1
        clear hL1
        go_enter Try.func30, Try.ntmps30
        go_wp2_with (first | (go_at_call_of 38 (Value.string s); refine (hnx.out _).mono ?_; rintro e1 w1 ⟨rfl, rfl⟩) | (go_at_call_of 38 (Value.string t); refine (hny.out _).mono ?_; rintro e1 w1 ⟨rfl, rfl⟩) | (go_at_call 57; refine hF.out.mono ?_; rintro e1 w1 ⟨rfl, rfl⟩) | (go_at_call 61; refine hFi.out.mono ?_; rintro e1 w1 ⟨rfl, rfl⟩) | (go_at_call 58; refine hD.out.mono ?_; rintro e1 w1 ⟨rfl, hA1, hK1⟩; have k1 : w1.cell? ⟨b, 1, none⟩ = some vn := hA1.row.cell 1; have hL := Lib.hid (link_zero w1 vn D1.names s (OwnK.lks hA1.names) (by omega)); rw [← HL1.out] at hL; have HA1 := Lib.hid hA1; have HK1 := Lib.hid hK1; clear hA1 hK1))
        refine hL.out.mono ?_
        rintro e1 w2 ⟨v2, rfl, ho2, hb2⟩
        obtain ⟨a2, q2, hv2⟩ := ho2.form
        generalize hln2 : L1.length = ln2 at hv2
        subst hv2
        have k2 : w2.cell? ⟨b, 1, none⟩ = some vn := (hb2.cell (p := ⟨b, 1, none⟩) HA1.out.row.lt).trans k1
        have f2 : w2.frozen? ⟨b, 1, none⟩ = false := (hb2.frozen (p := ⟨b, 1, none⟩) HA1.out.row.lt).trans (HA1.out.row.frozen 1)
        have hA2 := HA1.out.names_to hb2 ho2
        have k3 : (w2.setCell ⟨b, 1, none⟩ (.slice a2 ln2 q2)).cell? ⟨b, 1, none⟩ = some (.slice a2 ln2 q2) := hA2.row.cell 1
        have f3 := hA2.row.frozen 1
        have hL2 := Lib.hid (link_any (w2.setCell ⟨b, 1, none⟩ (.slice a2 ln2 q2)) (.slice a2 ln2 q2) L1 t fd (OwnK.lks hA2.names) hL1n)
        have HA2 := Lib.hid hA2
        have HK2 : Hid (KeptF (fun k => k = b) w (w2.setCell ⟨b, 1, none⟩ (.slice a2 ln2 q2))) := kept_step HK1.out hb2
        clear ho2 hb2 hA2 hln2
        go_wp2_with fail
        generalize w2.setCell ⟨b, 1, none⟩ (.slice a2 ln2 q2) = w3 at *
        refine hL2.out.mono ?_
        rintro e1 w4 ⟨v4, rfl, ho4, hb4⟩
        obtain ⟨a4, q4, hv4⟩ := ho4.form
        generalize (Vf.link L1 t fd).length = ln4 at hv4
        subst hv4
        have k4 : w4.cell? ⟨b, 1, none⟩ = some (.slice a2 ln2 q2) := (hb4.cell (p := ⟨b, 1, none⟩) HA2.out.row.lt).trans k3
        have f4 : w4.frozen? ⟨b, 1, none⟩ = false := (hb4.frozen (p := ⟨b, 1, none⟩) HA2.out.row.lt).trans f3
        have HA4 := Lib.hid (HA2.out.names_to hb4 ho4)
        have HK4 : Hid (KeptF (fun k => k = b) w (w4.setCell ⟨b, 1, none⟩ (.slice a4 ln4 q4))) := kept_step HK2.out hb4
        have HSZ : Hid (∀ k, (Value.slice a4 ln4 q4).ownBlock = some k → w.heap.size ≤ k) := fun k hk => Nat.le_trans HK2.out.size (World.ownsRow.lt ho4 k hk).1
        clear ho4 hb4
        go_wp2_with fail
        go_ret
        exact ⟨rfl, vf, _, vk, HA4.out, HK4.out.mono fun _ _ e => .inl e, fun k hk h => by
          rcases h with h | h | h | h
          · exact .inl h
          · exact .inr (.inl h)
          · have := HSZ.out k h; omega
          · exact .inr (.inr (.inr h))⟩

set_option maxRecDepth 100000 in
set_option maxHeartbeats 2000000 in
theorem readR_any (w : World) (b : Nat) (vf vn vk : Value) (D : Vf.Dk) (s : ByteArray) (h : RefA w b vf vn vk D) (hpl : Vf.find D.names s ≠ 0 → Vf.place D.files (Vf.find D.names s) < D.files.length) (hfd : Vf.find D.names s ≤ 9223372036854775807) :
    Calls Try.prog 36 #[.pointer (some ⟨b, 0, none⟩), .string s] w fun e' w' => e' = .returned (.tuple #[.string (Vf.read D s).1, .int .i64 (Vf.read D s).2]) ∧ Below w.heap.size w w' := by
  have hN : Hid (∀ (w : World) (s : ByteArray), _) := nameR_any
  have hF := Lib.hid (firstR_any w b vf vn vk D (Vf.okN s) h)
  have hFi := Lib.hid (find_any w vn D.names s (OwnK.lks h.names))
  have hPl : Hid (∀ n, Calls Try.prog 63 #[vf, .int .i64 (Vf.find D.names s)] (w.drewN n) fun e' w' => e' = .returned (.int .i64 (placeI D.files (Vf.find D.names s))) ∧ w' = w.drewN n) := fun n => (place_any (w.drewN n) vf D.files (Vf.find D.names s) (OwnF.fls h.files) hfd).mono fun _ _ h => ⟨h.1, h.2.symm⟩
  have c0 : w.cell? ⟨b, 0, none⟩ = some vf := h.row.cell 0
  have c1 : w.cell? ⟨b, 1, none⟩ = some vn := h.row.cell 1
  have H := Lib.hid h
  obtain ⟨R, hR⟩ : ∃ R, R = Vf.read D s := ⟨_, rfl⟩
  rw [← hR]
  unfold Vf.read at hR
  clear h
  by_cases h1 : Vf.first D (Vf.okN s) ≠ 0
  · rw [if_pos h1] at hR
    have e1 : (Vf.first D (Vf.okN s) != 0) = true := by simpa using h1
    subst hR
    clear h1 hPl hpl
    generalize Vf.first D (Vf.okN s) = fe at *
    go_enter Try.func36, Try.ntmps36
    go_wp2_with (first | (go_at_call 38; refine (hN.out _ _).mono ?_; rintro e1 w1 ⟨rfl, rfl⟩) | (go_at_call 57; refine hF.out.mono ?_; rintro e1 w1 ⟨rfl, rfl⟩))
    go_ret2
    exact ⟨rfl, Below.refl _ _⟩
  · rw [if_neg h1] at hR
    have h1' : Vf.first D (Vf.okN s) = 0 := by simpa using h1
    rw [h1'] at hF
    clear h1 h1'
    by_cases h2 : Vf.find D.names s = 0
    · rw [if_pos h2] at hR
      rw [h2] at hFi
      subst hR
      clear h2 hPl hpl
      go_enter Try.func36, Try.ntmps36
      go_wp2_with (first | (go_at_call 38; refine (hN.out _ _).mono ?_; rintro e1 w1 ⟨rfl, rfl⟩) | (go_at_call 57; refine hF.out.mono ?_; rintro e1 w1 ⟨rfl, rfl⟩) | (go_at_call 61; refine hFi.out.mono ?_; rintro e1 w1 ⟨rfl, rfl⟩))
      go_ret2
      exact ⟨rfl, Below.refl _ _⟩
    · rw [if_neg h2] at hR
      have e2 : ((Vf.find D.names s : Int) == 0) = false := by simp; omega
      have hp := hpl h2
      obtain ⟨a0, q0, hv0, _, _, hcl⟩ := OwnF.cellsAt H.out.files
      obtain ⟨g0, rfl, _, hg0, _, hcc⟩ := hcl (by omega)
      obtain ⟨k1, k2, k3⟩ := hcc _ hp
      have hpI : placeI D.files (Vf.find D.names s) = (Vf.place D.files (Vf.find D.names s) : Int) := by unfold placeI; rw [if_pos hp]
      have hfa : (Vf.fileAt D.files (Vf.find D.names s)).data = (D.files[Vf.place D.files (Vf.find D.names s)]).data := by
        unfold Vf.fileAt
        rw [List.getD, List.getElem?_eq_getElem hp]
        rfl
      rw [hpI] at hPl
      rw [hfa] at hR
      have hpi : (Vf.place D.files (Vf.find D.names s) : Int) < (D.files.length : Int) := by omega
      subst hR hv0
      have HE := Lib.hid H.out.row
      clear h2 hpl hcl hcc hpI hfa k1 k3 H
      generalize (D.files[Vf.place D.files (Vf.find D.names s)]).data = dt at *
      clear hp
      generalize Vf.place D.files (Vf.find D.names s) = pl at *
      generalize Vf.find D.names s = fd at *
      generalize D.files.length = fln at *
      go_enter Try.func36, Try.ntmps36
      go_wp2_with (first | (go_at_call 38; refine (hN.out _ _).mono ?_; rintro e1 w1 ⟨rfl, rfl⟩) | (go_at_call 57; refine hF.out.mono ?_; rintro e1 w1 ⟨rfl, rfl⟩) | (go_at_call 61; refine hFi.out.mono ?_; rintro e1 w1 ⟨rfl, rfl⟩))
      go_quiet (first | (go_at_call 63; refine Calls.quiet_of_same (hPl.out _)))
      go_wp2_with fail
      go_ret2
      exact ⟨rfl, belowN (Below.refl _ _) _⟩

end Go.Proofs.Ytdohenbicepicaa

/-
  What the given disk's Append and Sync do.
-/
import Derived.Test.YtdohenbicepicaaVs
namespace Go.Proofs.Ytdohenbicepicaa
open Go.RowKit

theorem ownsRow_set {w : World} {B : Nat} {t : TypeId} {z g n cap : Nat} {xs : List Value} (h : w.ownsRow B t z (.slice (some ⟨g, 0, none⟩) n cap) n xs) (i : Nat) (u : Value) :
    (w.setCell ⟨g, i, none⟩ u).ownsRow B t z (.slice (some ⟨g, 0, none⟩) n cap) n (xs.set i u) := by
  refine ⟨by rw [List.length_set]; exact h.1, ?_⟩
  rcases h.2 with ⟨h1, _⟩ | ⟨g', cap', cur, hv, hg, hh, hnc, hcp, hcs, ht⟩
  · cases h1
  · obtain ⟨rfl, rfl⟩ : g = g' ∧ cap = cap' := by simpa using hv
    refine .inr ⟨g, cap, cur.setIfInBounds i u, rfl, hg, ?_, hnc, hcp, by rw [Array.size_setIfInBounds]; exact hcs, ?_⟩
    · rw [setCell_eq_setRow w g i cur _ _ u hh]
      exact setRow_heap w g cur _ _ _ hh
    · rw [Array.toList_setIfInBounds, List.take_set, ht]
theorem flsV_data (l : List Vf.Fl) (x : ByteArray) : ∀ p, p < l.length → (flsV l).set (p * 3 + 1) (.string x) = flsV (l.modify p (fun f => { f with data := x })) := by
  induction l with
  | nil => intro p h; cases h
  | cons f t ih =>
    intro p h
    cases p with
    | zero => rfl
    | succ p =>
      simp only [List.length_cons, Nat.add_lt_add_iff_right] at h
      have e : (p + 1) * 3 + 1 = p * 3 + 1 + 1 + 1 + 1 := by omega
      rw [e]
      show _ :: _ :: _ :: (flsV t).set (p * 3 + 1) (.string x) = _
      rw [ih p h]
      rfl
theorem flsV_sure (l : List Vf.Fl) (x : Nat) : ∀ p, p < l.length → (flsV l).set (p * 3 + 2) (.int .i64 (x : Int)) = flsV (l.modify p (fun f => { f with sure := x })) := by
  induction l with
  | nil => intro p h; cases h
  | cons f t ih =>
    intro p h
    cases p with
    | zero => rfl
    | succ p =>
      simp only [List.length_cons, Nat.add_lt_add_iff_right] at h
      have e : (p + 1) * 3 + 2 = p * 3 + 2 + 1 + 1 + 1 := by omega
      rw [e]
      show _ :: _ :: _ :: (flsV t).set (p * 3 + 2) (.int .i64 (x : Int)) = _
      rw [ih p h]
      rfl
/-- A file's cell has turned. -/
theorem RefA.file_at {w : World} {b g len cap i : Nat} {vn vk : Value} {D : Vf.Dk} {l : List Vf.Fl} {u : Value} (h : RefA w b (.slice (some ⟨g, 0, none⟩) len cap) vn vk D) (hl : D.files.length = len) (hl2 : l.length = len) (e : (flsV D.files).set i u = flsV l) :
    RefA (w.setCell ⟨g, i, none⟩ u) b (.slice (some ⟨g, 0, none⟩) len cap) vn vk { D with files := l } := by
  have hgb : b ≠ g := fun e => h.fb (by rw [e]; rfl)
  have hng := h.apart g rfl
  refine ⟨(heap_other _ _ _ _ _ hgb).trans h.row, ?_, ownsRow_keep h.names fun k hk => heap_other _ _ _ _ _ (fun e => hng.1 (e ▸ hk)), ownsRow_keep h.kept fun k hk => heap_other _ _ _ _ _ (fun e => hng.2 (e ▸ hk)), h.fb, h.nb, h.kb, h.apart⟩
  have hf : w.ownsRow 0 86 3 (.slice (some ⟨g, 0, none⟩) len cap) D.files.length (flsV D.files) := h.files
  rw [hl] at hf
  have h2 := ownsRow_set hf i u
  rw [e] at h2
  unfold OwnF
  rw [hl2]
  exact h2

theorem modify_congr (F G : Vf.Fl → Vf.Fl) (f0 : Vf.Fl) (e : F f0 = G f0) : ∀ (l : List Vf.Fl) (p : Nat), l[p]? = some f0 → l.modify p F = l.modify p G := by
  intro l
  induction l with
  | nil => intro p h; simp at h
  | cons f t ih =>
    intro p h
    cases p with
    | zero =>
      obtain rfl : f = f0 := by simpa using h
      simp [List.modify, e]
    | succ p =>
      have h2 : t[p]? = some f0 := by simpa using h
      simp [ih p h2]
theorem modify_twice (F G : Vf.Fl → Vf.Fl) : ∀ (l : List Vf.Fl) (p : Nat), (l.modify p F).modify p G = l.modify p (fun f => G (F f)) := by
  intro l
  induction l with
  | nil => intro p; simp
  | cons f t ih =>
    intro p
    cases p with
    | zero => simp
    | succ p => simp [ih p]
set_option maxRecDepth 100000 in
set_option maxHeartbeats 4000000 in
theorem changeR_any (w : World) (b : Nat) (vf vn vk : Value) (D : Vf.Dk) (s data : ByteArray) (sy : Bool) (h : RefA w b vf vn vk D) (hs : D.steps ≤ 4611686018427387904) (ha : -1 ≤ D.armed ∧ D.armed ≤ 9223372036854775807)
    (hpl : Vf.find D.names s ≠ 0 → Vf.place D.files (Vf.find D.names s) < D.files.length) (hfd : Vf.find D.names s ≤ 9223372036854775807) (hda : ∀ f ∈ D.files, f.data.size ≤ 1099511627776) (hdb : data.size ≤ 1099511627776) :
    Calls Try.prog 60 #[.pointer (some ⟨b, 0, none⟩), .string s, .string data, .bool sy] w (OpPost w b vf vn vk (Vf.change D s data sy)) := by
  have hN : Hid (∀ (w : World) (s : ByteArray), _) := nameR_any
  have hF := Lib.hid (firstR_any w b vf vn vk D (Vf.okN s) h)
  have hFi := Lib.hid (find_any w vn D.names s (OwnK.lks h.names))
  have hD := Lib.hid (doneR_any w b vf vn vk D h hs ha)
  have c1 : w.cell? ⟨b, 1, none⟩ = some vn := h.row.cell 1
  have H := Lib.hid h
  obtain ⟨R, hR⟩ : ∃ R, R = Vf.change D s data sy := ⟨_, rfl⟩
  rw [← hR]
  unfold Vf.change at hR
  clear h
  by_cases h1 : Vf.first D (Vf.okN s) ≠ 0
  · rw [if_pos h1] at hR
    have e1 : (Vf.first D (Vf.okN s) != 0) = true := by simpa using h1
    subst hR
    clear h1 hpl hda
    generalize Vf.first D (Vf.okN s) = fe at *
    go_enter Try.func60, Try.ntmps60
    go_wp2_with (first | (go_at_call 38; refine (hN.out _ _).mono ?_; rintro e1 w1 ⟨rfl, rfl⟩) | (go_at_call 57; refine hF.out.mono ?_; rintro e1 w1 ⟨rfl, rfl⟩))
    go_ret
    exact OpPost.same H.out (kept_refl _ _)
  · rw [if_neg h1] at hR
    have h1' : Vf.first D (Vf.okN s) = 0 := by simpa using h1
    rw [h1'] at hF
    clear h1 h1'
    by_cases h2 : Vf.find D.names s = 0
    · rw [if_pos h2] at hR
      rw [h2] at hFi
      subst hR
      clear h2 hpl hda
      go_enter Try.func60, Try.ntmps60
      go_wp2_with (first | (go_at_call 38; refine (hN.out _ _).mono ?_; rintro e1 w1 ⟨rfl, rfl⟩) | (go_at_call 57; refine hF.out.mono ?_; rintro e1 w1 ⟨rfl, rfl⟩) | (go_at_call 61; refine hFi.out.mono ?_; rintro e1 w1 ⟨rfl, rfl⟩))
      go_ret
      exact OpPost.same H.out (kept_refl _ _)
    · rw [if_neg h2] at hR
      have hp := hpl h2
      have e2 : ((Vf.find D.names s : Int) == 0) = false := by simp; omega
      clear h2 hpl
      generalize Vf.find D.names s = fd at *
      by_cases h3 : (Vf.done D).1 ≠ 0
      · rw [if_pos h3] at hR
        have e3 : ((Vf.done D).1 != 0) = true := by simpa using h3
        subst hR
        clear h3 hda hp
        generalize Vf.done D = dd at *
        obtain ⟨de, D1⟩ := dd
        simp only at e3 hD
        go_enter Try.func60, Try.ntmps60
        go_wp2_with (first | (go_at_call 38; refine (hN.out _ _).mono ?_; rintro e1 w1 ⟨rfl, rfl⟩) | (go_at_call 57; refine hF.out.mono ?_; rintro e1 w1 ⟨rfl, rfl⟩) | (go_at_call 61; refine hFi.out.mono ?_; rintro e1 w1 ⟨rfl, rfl⟩) | (go_at_call 58; refine hD.out.mono ?_; rintro e1 w1 ⟨rfl, hA1, hK1⟩; have HA1 := Lib.hid hA1; have HK1 := Lib.hid hK1; clear hA1 hK1))
        go_ret
        exact OpPost.same HA1.out HK1.out
      · rw [if_neg h3] at hR
        have h3' : (Vf.done D).1 = 0 := by simpa using h3
        rw [h3'] at hD
        obtain ⟨-, hfl, -, -⟩ := done_same D
        subst hR
        clear h3 h3'
        generalize (Vf.done D).2 = D1 at *
        rw [← hfl] at hp hda ⊢
        have hvf : ∃ g cap, vf = .slice (some ⟨g, 0, none⟩) D1.files.length cap ∧ D1.files.length ≤ cap ∧ cap ≤ 9223372036854775807 := by
          obtain ⟨a0, q0, hv0, hq1, hq2, hcl⟩ := OwnF.cellsAt H.out.files
          rw [← hfl] at hv0 hq1 hcl
          obtain ⟨g0, rfl, _⟩ := hcl (by omega)
          exact ⟨g0, q0, hv0, hq1, hq2⟩
        clear hfl
        obtain ⟨g, cap, rfl, hq1, hq2⟩ := hvf
        obtain ⟨pl, hplx⟩ : ∃ pl, pl = Vf.place D1.files fd := ⟨_, rfl⟩
        rw [← hplx] at hp ⊢
        have hpI : placeI D1.files fd = (pl : Int) := by unfold placeI; rw [← hplx, if_pos hp]
        clear hplx
        obtain ⟨f0, hf0⟩ : ∃ f0, D1.files[pl]? = some f0 := ⟨_, List.getElem?_eq_getElem hp⟩
        have hsz0 := hda f0 (List.mem_of_getElem? hf0)
        have hpi : (pl : Int) < (D1.files.length : Int) := by omega
        have hsum : ¬ 9223372036854775807 < f0.data.size + data.size := by omega
        have HM1 : Hid (D1.files.modify pl (fun f => { f with data := f0.data ++ data }) = D1.files.modify pl (fun f => Vf.chg f data false)) := modify_congr (fun f => { f with data := f0.data ++ data }) (fun f => Vf.chg f data false) f0 (by simp [Vf.chg]) _ _ hf0
        have HM2 : Hid ((D1.files.modify pl (fun f => { f with data := f0.data ++ data })).modify pl (fun f => { f with sure := (f0.data ++ data).size }) = D1.files.modify pl (fun f => Vf.chg f data true)) := by
          show _ = _
          rw [modify_twice]
          exact modify_congr (fun f => { n := f.n, data := f0.data ++ data, sure := (f0.data ++ data).size }) (fun f => Vf.chg f data true) f0 (by simp [Vf.chg]) _ _ hf0
        have HF0 := Lib.hid hf0
        have HP : Hid (pl < D1.files.length) := hp
        clear hda hf0 hp
        generalize hln : D1.files.length = len at *
        have HLN := Lib.hid hln
        clear hln
        go_enter Try.func60, Try.ntmps60
        go_wp2_with (first | (go_at_call 38; refine (hN.out _ _).mono ?_; rintro e1 w1 ⟨rfl, rfl⟩) | (go_at_call 57; refine hF.out.mono ?_; rintro e1 w1 ⟨rfl, rfl⟩) | (go_at_call 61; refine hFi.out.mono ?_; rintro e1 w1 ⟨rfl, rfl⟩) | (go_at_call 58; refine hD.out.mono ?_; rintro e1 w1 ⟨rfl, hA1, hK1⟩; have k0 : w1.cell? ⟨b, 0, none⟩ = some (.slice (some ⟨g, 0, none⟩) len cap) := hA1.row.cell 0; have hPl := Lib.hid (place_any w1 (.slice (some ⟨g, 0, none⟩) len cap) D1.files fd (OwnF.fls hA1.files) hfd); rw [hpI] at hPl; have HA1 := Lib.hid hA1; have HK1 := Lib.hid hK1; clear hA1 hK1) | (go_at_call 63; refine hPl.out.mono ?_; rintro e1 w2 ⟨rfl, rfl⟩))
        -- the bytes
        have hcl := OwnF.cellsAt HA1.out.files
        obtain ⟨a0, q0, hv0, _, _, hcl⟩ := hcl
        obtain ⟨g', hg', hob, hgl, hfz, hcc⟩ := hcl (by have := HP.out; have := HLN.out; omega)
        have hgg : g = g' := by
          rw [hg'] at hv0
          have h := (Value.slice.inj hv0).1
          simpa using h
        subst hgg
        have hpl2 : pl < D1.files.length := by rw [HLN.out]; exact HP.out
        have hfp : D1.files[pl] = f0 := by
          have h := HF0.out
          rw [List.getElem?_eq_getElem hpl2] at h
          simpa using h
        have hkk := hcc pl hpl2
        rw [hfp] at hkk
        obtain ⟨-, kd, ks⟩ := hkk
        have fd1 := hfz (pl * 3 + 1)
        have hA2 := HA1.out.file_at (i := pl * 3 + 1) (u := .string (f0.data ++ data)) (l := D1.files.modify pl (fun f => { f with data := f0.data ++ data })) HLN.out (by rw [List.length_modify]; exact HLN.out) (flsV_data _ _ _ hpl2)
        have hK2 : KeptF (fun k => k = b ∨ k = g) w (w1.setCell ⟨g, pl * 3 + 1, none⟩ (.string (f0.data ++ data))) := (HK1.out.mono fun _ _ e => .inl e).set g _ (.inr rfl) _
        have hfoot : Hid (∀ (D' : Vf.Dk) (e : Int) (w' : World), RefA w' b (.slice (some ⟨g, 0, none⟩) len cap) vn vk D' → KeptF (fun k => k = b ∨ k = g) w w' → OpPost w b (.slice (some ⟨g, 0, none⟩) len cap) vn vk (e, D') (.returned (.int .i64 e)) w') := fun D' e w' hA hK =>
          ⟨rfl, _, vn, vk, hA, hK.mono fun k _ h => h.elim .inl (fun h => .inr (.inl (by rw [h]; rfl))), fun _ _ h => h⟩
        have HA2 := Lib.hid hA2
        have HK2 := Lib.hid hK2
        have hl2 : (D1.files.modify pl (fun f => { f with data := f0.data ++ data })).length = len := by rw [List.length_modify]; exact HLN.out
        have HL2 := Lib.hid hl2
        have HFZ := Lib.hid hfz
        clear hA2 hK2 hcl hcc hv0 hg' hob hpl2 hfp hl2 hfz
        cases sy with
        | false =>
          rw [HM1.out] at HA2
          go_region
          go_wp2_with fail
          go_ret
          exact hfoot.out _ _ _ (HA2.out.keep (fun _ _ => rfl)) (by first | exact HK2.out.drew | exact HK2.out)
        | true =>
          have k0' : (w1.setCell ⟨g, pl * 3 + 1, none⟩ (.string (f0.data ++ data))).cell? ⟨b, 0, none⟩ = some (.slice (some ⟨g, 0, none⟩) len cap) := HA2.out.row.cell 0
          have kd' : (w1.setCell ⟨g, pl * 3 + 1, none⟩ (.string (f0.data ++ data))).cell? ⟨g, pl * 3 + 1, none⟩ = some (.string (f0.data ++ data)) := World.cell?_setCell_same _ _ _ kd
          have ks' : (w1.setCell ⟨g, pl * 3 + 1, none⟩ (.string (f0.data ++ data))).cell? ⟨g, pl * 3 + 2, none⟩ = some (.int .i64 (f0.sure : Int)) := (World.cell?_setCell_other _ _ _ _ (by simp)).trans ks
          have fs' : (w1.setCell ⟨g, pl * 3 + 1, none⟩ (.string (f0.data ++ data))).frozen? ⟨g, pl * 3 + 2, none⟩ = false := (World.frozen?_setCell _ _ _ _).trans (HFZ.out _)
          have hA3 := HA2.out.file_at (i := pl * 3 + 2) (u := .int .i64 (((f0.data ++ data).size : Nat) : Int)) (l := (D1.files.modify pl (fun f => { f with data := f0.data ++ data })).modify pl (fun f => { f with sure := (f0.data ++ data).size })) HL2.out (by rw [List.length_modify]; exact HL2.out) (flsV_sure _ _ _ (by rw [HL2.out]; exact HP.out))
          rw [HM2.out] at hA3
          have HA3 := Lib.hid hA3
          have HK3 := Lib.hid (HK2.out.set g (pl * 3 + 2) (.inr rfl) (.int .i64 (((f0.data ++ data).size : Nat) : Int)))
          have hsz : (((f0.data ++ data).size : Nat) : Int) = (f0.data.size : Int) + (data.size : Int) := by simp
          rw [hsz] at HA3 HK3
          clear hA3
          go_region
          go_wp2_with fail
          generalize hdd : f0.data ++ data = dd at *
          generalize hw3 : w1.setCell ⟨g, pl * 3 + 1, none⟩ (.string dd) = w3 at *
          go_region
          go_wp2_with fail
          go_ret
          exact hfoot.out _ _ _ (HA3.out.keep (fun _ _ => rfl)) (by first | exact HK3.out.drew.drew | exact HK3.out.drew | exact HK3.out)
end Go.Proofs.Ytdohenbicepicaa

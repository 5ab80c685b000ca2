/-
  The plain disk: what each call answers where nothing refuses it, and what Read finds behind a loss.
-/
import Derived.Test.YtdohenbicepicaaVi
namespace Go.Proofs.Ytdohenbicepicaa.Vf

def aft (a : Int) : Int := if 0 < a then a - 1 else a
theorem done_ok {D : Dk} (ha : D.armed ≠ 0) : done D = (0, { D with armed := aft D.armed, steps := D.steps + 1 }) := by
  unfold done
  rw [if_neg ha]
  rfl
theorem done_fault {D : Dk} (ha : D.armed = 0) : done D = (D.fault, { D with armed := -1, down := decide (D.fault = 15) }) := by
  unfold done
  rw [if_pos ha]
theorem first_zero {D : Dk} {ok : Bool} (hd : D.down = false) (hs : ok = true) : first D ok = 0 := by
  unfold first
  rw [hd, hs]
  rfl
theorem create_ok {D : Dk} {s : ByteArray} (hd : D.down = false) (ha : D.armed ≠ 0) (hs : okN s = true) : create D s = (0, { D with armed := aft D.armed, steps := D.steps + 1, last := D.last + 1, files := D.files ++ [⟨D.last + 1, ByteArray.empty, 0⟩], names := link D.names s (D.last + 1) }) := by
  unfold create
  rw [first_zero hd hs, if_neg (by simp), done_ok ha, if_neg (by simp)]
theorem create_fault {D : Dk} {s : ByteArray} (hd : D.down = false) (ha : D.armed = 0) (hf : D.fault ≠ 0) (hs : okN s = true) : create D s = (D.fault, { D with armed := -1, down := decide (D.fault = 15) }) := by
  unfold create
  rw [first_zero hd hs, if_neg (by simp), done_fault ha, if_pos (by simpa using hf)]
theorem change_ok {D : Dk} {s data : ByteArray} {sy : Bool} {n : Nat} (hd : D.down = false) (ha : D.armed ≠ 0) (hs : okN s = true) (hn : find D.names s = n) (h0 : n ≠ 0) : change D s data sy = (0, { D with armed := aft D.armed, steps := D.steps + 1, files := D.files.modify (place D.files n) (fun f => chg f data sy) }) := by
  unfold change
  rw [first_zero hd hs, if_neg (by simp), hn, if_neg h0, done_ok ha, if_neg (by simp)]
theorem change_fault {D : Dk} {s data : ByteArray} {sy : Bool} {n : Nat} (hd : D.down = false) (ha : D.armed = 0) (hf : D.fault ≠ 0) (hs : okN s = true) (hn : find D.names s = n) (h0 : n ≠ 0) : change D s data sy = (D.fault, { D with armed := -1, down := decide (D.fault = 15) }) := by
  unfold change
  rw [first_zero hd hs, if_neg (by simp), hn, if_neg h0, done_fault ha, if_pos (by simpa using hf)]
theorem rename_ok {D : Dk} {s t : ByteArray} {n : Nat} (hd : D.down = false) (ha : D.armed ≠ 0) (hs : okN s = true) (ht : okN t = true) (hn : find D.names s = n) (h0 : n ≠ 0) : rename D s t = (0, { D with armed := aft D.armed, steps := D.steps + 1, names := link (link D.names s 0) t n }) := by
  unfold rename
  rw [first_zero hd (by rw [hs, ht]; rfl), if_neg (by simp), hn, if_neg h0, done_ok ha, if_neg (by simp)]
theorem rename_fault {D : Dk} {s t : ByteArray} {n : Nat} (hd : D.down = false) (ha : D.armed = 0) (hf : D.fault ≠ 0) (hs : okN s = true) (ht : okN t = true) (hn : find D.names s = n) (h0 : n ≠ 0) : rename D s t = (D.fault, { D with armed := -1, down := decide (D.fault = 15) }) := by
  unfold rename
  rw [first_zero hd (by rw [hs, ht]; rfl), if_neg (by simp), hn, if_neg h0, done_fault ha, if_pos (by simpa using hf)]
theorem syncDir_ok {D : Dk} (hd : D.down = false) (ha : D.armed ≠ 0) : syncDir D = (0, { D with armed := aft D.armed, steps := D.steps + 1, kept := D.names }) := by
  unfold syncDir
  rw [first_zero hd rfl, if_neg (by simp), done_ok ha, if_neg (by simp)]
theorem syncDir_fault {D : Dk} (hd : D.down = false) (ha : D.armed = 0) (hf : D.fault ≠ 0) : syncDir D = (D.fault, { D with armed := -1, down := decide (D.fault = 15) }) := by
  unfold syncDir
  rw [first_zero hd rfl, if_neg (by simp), done_fault ha, if_pos (by simpa using hf)]

/-! ### Read behind a loss -/
theorem pick_find (kept names : List Lk) (loss : Nat) (s : ByteArray) (t : List Lk) : ∀ k acc, Rise t → (∀ b ∈ acc, b.name ≠ s) → (∃ a ∈ t, a.name = s) →
    find (pick kept names loss k acc t).1 s = find kept s ∨ find (pick kept names loss k acc t).1 s = find names s := by
  have hrest : ∀ (t : List Lk) k acc, (∀ a ∈ t, a.name ≠ s) → find (pick kept names loss k acc t).1 s = find acc s := by
    intro t
    induction t with
    | nil => intro k acc _; rfl
    | cons a t ih =>
      intro k acc h
      obtain ⟨k', x', he, _, _, _⟩ := pick_cons kept names loss k acc t a
      rw [he, ih _ _ fun b hb => h b (List.mem_cons_of_mem _ hb)]
      split
      · exact find_snoc_other (a := ⟨a.name, x'⟩) (fun e => h a (List.mem_cons_self ..) e.symm)
      · rfl
  induction t with
  | nil => intro k acc _ _ h; obtain ⟨a, ha, _⟩ := h; cases ha
  | cons a t ih =>
    intro k acc hr hacc hex
    obtain ⟨r1, r2⟩ := List.pairwise_cons.1 hr
    obtain ⟨k', x', he, hx, _, _⟩ := pick_cons kept names loss k acc t a
    rw [he]
    by_cases e : a.name = s
    · have hno : ∀ b ∈ t, b.name ≠ s := fun b hb h => ltB_ne (r1 b hb) (e.trans h.symm)
      rw [hrest t _ _ hno]
      have hval : find (if x' ≠ 0 then acc ++ [⟨a.name, x'⟩] else acc) s = x' := by
        split
        · rw [← e]
          exact find_snoc_same (a := ⟨a.name, x'⟩) (fun b hb h => hacc b hb (h.trans e))
        · rename_i h0
          have h0' : x' = 0 := by omega
          rw [h0']
          exact find_none hacc
      rw [hval, ← e]
      exact hx
    · refine ih _ _ r2 (fun b hb => ?_) ?_
      · split at hb
        · rcases List.mem_append.1 hb with h | h
          · exact hacc b h
          · obtain rfl := List.mem_singleton.1 h
            exact e
        · exact hacc b hb
      · obtain ⟨b, hb, hbs⟩ := hex
        rcases List.mem_cons.1 hb with rfl | hb
        · exact absurd hbs e
        · exact ⟨b, hb, hbs⟩
theorem cut_data (f : Fl) (loss k : Nat) (h : f.sure ≤ f.data.size) : ∃ c, f.sure ≤ c ∧ c ≤ f.data.size ∧ (cut f loss k).data = f.data.extract 0 c := by
  by_cases hl : f.sure < f.data.size
  · refine ⟨f.sure + mix loss k % (f.data.size - f.sure + 1), by omega, ?_, ?_⟩
    · have := Nat.mod_lt (mix loss k) (show 0 < f.data.size - f.sure + 1 by omega)
      omega
    · unfold cut
      simp only [if_pos hl]
  · refine ⟨f.data.size, h, Nat.le_refl _, ?_⟩
    unfold cut
    simp only [if_neg hl]
    exact (ByteArray.extract_zero_size).symm
theorem lose_at (files : List Fl) (loss : Nat) (t : List Lk) : ∀ k acc, (∀ x ∈ t, place files x.n < files.length) → ∀ x ∈ t, ¬ place acc x.n < acc.length → ∃ k', fileAt (lose files loss k acc t) x.n = cut (fileAt files x.n) loss k' := by
  induction t with
  | nil => intro k acc _ x hx; cases hx
  | cons a t ih =>
    intro k acc hf x hx hn
    have hft : ∀ x ∈ t, place files x.n < files.length := fun x hx => hf x (List.mem_cons_of_mem _ hx)
    unfold lose
    by_cases hp : place acc a.n < acc.length
    · rw [if_pos hp]
      rcases List.mem_cons.1 hx with rfl | hx
      · exact absurd hp hn
      · exact ih k acc hft x hx hn
    · rw [if_neg hp]
      simp only []
      generalize (if (fileAt files a.n).sure < (fileAt files a.n).data.size then k + 1 else k) = k'
      have hcn : (cut (fileAt files a.n) loss k').n = a.n := (cut_n _ _ _).trans (fileAt_n (hf a (List.mem_cons_self ..)))
      by_cases e : x.n = a.n
      · obtain ⟨r, hr⟩ := lose_prefix files loss t k' (acc ++ [cut (fileAt files a.n) loss k'])
        refine ⟨k', ?_⟩
        have hno : ∀ g ∈ acc, g.n ≠ (cut (fileAt files a.n) loss k').n := fun g hg h => hp (by rw [← hcn, ← h]; exact place_lt_of_mem hg)
        have h1 := fileAt_new hno
        rw [hcn] at h1
        have h2 : place (acc ++ [cut (fileAt files a.n) loss k']) a.n < (acc ++ [cut (fileAt files a.n) loss k']).length := by
          have h := place_lt_of_mem (l := acc ++ [cut (fileAt files a.n) loss k']) (f := cut (fileAt files a.n) loss k') (List.mem_append_right _ (List.mem_singleton.2 rfl))
          rw [hcn] at h
          exact h
        rw [hr, e, fileAt_append_lt h2, h1]
      · rcases List.mem_cons.1 hx with rfl | hx
        · exact absurd rfl e
        · refine ih _ _ hft x hx fun h => hn ?_
          have hno : ∀ g ∈ acc ++ [cut (fileAt files a.n) loss k'], g.n = x.n → g ∈ acc := fun g hg h => by
            rcases List.mem_append.1 hg with h2 | h2
            · exact h2
            · obtain rfl := List.mem_singleton.1 h2
              exact absurd (h.symm.trans hcn) e
          have hg := place_get h
          have hm := hno _ (List.getElem_mem h) hg
          have := place_lt_of_mem hm
          rw [hg] at this
          exact this
/-- What Read finds of a name behind a loss: nothing, or a file for which the name stood, with all that was sure of it. -/
theorem restart_read {D : Dk} {c m : Nat} (h : Ok D c m) (loss : Int) (s : ByteArray) (hs : okN s = true) :
    ∃ z, (z = find D.kept s ∨ z = find D.names s) ∧ (z = 0 → read (restart D loss).2 s = (ByteArray.empty, 11)) ∧ (z ≠ 0 → ∃ c, (fileAt D.files z).sure ≤ c ∧ c ≤ (fileAt D.files z).data.size ∧ read (restart D loss).2 s = ((fileAt D.files z).data.extract 0 c, 0)) := by
  have hkn : ∀ x ∈ D.kept, x.n ≠ 0 := fun x hx => by have := (h.nums x (.inr hx)).1; omega
  have hnn : ∀ x ∈ D.names, x.n ≠ 0 := fun x hx => by have := (h.nums x (.inl hx)).1; omega
  have hall := all_spec hkn hnn h.krise
  have hsp := pick_spec D.kept D.names (u64 loss) (allNames D.kept D.kept D.names) 0 [] hall.1 (fun b hb => by cases hb) List.Pairwise.nil (fun b hb => by cases hb)
  have hfind := pick_find D.kept D.names (u64 loss) s (allNames D.kept D.kept D.names) 0 [] hall.1 (fun b hb => by cases hb)
  unfold restart
  simp only []
  generalize hpk : pick D.kept D.names (u64 loss) 0 [] (allNames D.kept D.kept D.names) = pk at *
  obtain ⟨N, kk⟩ := pk
  simp only at hsp hfind ⊢
  have hnum : ∀ x ∈ N, place D.files x.n < D.files.length := by
    intro x hx
    obtain ⟨h0, h1 | h1⟩ := hsp.2.1 x hx
    · obtain ⟨z, hz, _, h2⟩ := find_mem (l := D.kept) (s := x.name) (by rw [← h1]; exact h0)
      rw [h1, ← h2]; exact (h.nums z (.inr hz)).2.2.2
    · obtain ⟨z, hz, _, h2⟩ := find_mem (l := D.names) (s := x.name) (by rw [← h1]; exact h0)
      rw [h1, ← h2]; exact (h.nums z (.inl hz)).2.2.2
  refine ⟨find N s, ?_, fun h0 => ?_, fun h0 => ?_⟩
  · by_cases hex : find D.kept s ≠ 0 ∨ find D.names s ≠ 0
    · exact hfind ((hall.2 s).2 hex)
    · have h1 : find D.kept s = 0 := Decidable.byContradiction fun h => hex (.inl h)
      left
      rw [h1]
      refine find_none fun x hx hn => ?_
      obtain ⟨g0, g1 | g1⟩ := hsp.2.1 x hx
      · rw [hn, h1] at g1; exact g0 g1
      · rw [hn] at g1; exact hex (.inr (by rw [← g1]; exact g0))
  · unfold read
    rw [first_zero rfl hs, if_neg (by simp)]
    simp only [h0, if_true]
  · obtain ⟨x, hx, hxn, hx2⟩ := find_mem h0
    obtain ⟨k', hk'⟩ := lose_at D.files (u64 loss) N kk [] hnum x hx (by simp)
    have hfile := h.files _ (fileAt_mem (hnum x hx))
    obtain ⟨c, c1, c2, c3⟩ := cut_data (fileAt D.files x.n) (u64 loss) k' hfile.2.1
    rw [hx2] at hk' c1 c2 c3
    refine ⟨c, c1, c2, ?_⟩
    unfold read
    rw [first_zero rfl hs, if_neg (by simp)]
    simp only []
    rw [if_neg h0, hk', c3]
end Go.Proofs.Ytdohenbicepicaa.Vf

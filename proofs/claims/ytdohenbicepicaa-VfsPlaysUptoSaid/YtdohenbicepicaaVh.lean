/-
  The plain disk: what a loss leaves of names and files.
-/
import Derived.Test.YtdohenbicepicaaVg
namespace Go.Proofs.Ytdohenbicepicaa.Vf

theorem find_snoc_other {l : List Lk} {a : Lk} {s : ByteArray} (h : s ≠ a.name) : find (l ++ [a]) s = find l s := by
  induction l with
  | nil =>
    show find [a] s = 0
    unfold find
    rw [if_neg (by rw [eqB_ne (fun e => h e.symm)]; simp)]
    rfl
  | cons x t ih =>
    rw [List.cons_append]
    unfold find
    rw [ih]
theorem find_snoc_same {l : List Lk} {a : Lk} (h : ∀ b ∈ l, b.name ≠ a.name) : find (l ++ [a]) a.name = a.n := by
  induction l with
  | nil =>
    show find [a] a.name = _
    unfold find
    rw [if_pos (eqB_self _)]
  | cons x t ih =>
    rw [List.cons_append]
    unfold find
    rw [if_neg (by rw [eqB_ne (h x (List.mem_cons_self ..))]; simp)]
    exact ih fun b hb => h b (List.mem_cons_of_mem _ hb)
theorem find_name {l : List Lk} {s : ByteArray} (hn : ∀ x ∈ l, x.n ≠ 0) : find l s ≠ 0 ↔ ∃ x ∈ l, x.name = s := by
  constructor
  · intro h
    obtain ⟨x, hx, h1, _⟩ := find_mem h
    exact ⟨x, hx, h1⟩
  · rintro ⟨x, hx, rfl⟩
    induction l with
    | nil => cases hx
    | cons y t ih =>
      unfold find
      split
      · exact hn y (List.mem_cons_self ..)
      · rename_i hne
        rcases List.mem_cons.1 hx with rfl | hx
        · exact absurd (eqB_self _) hne
        · exact ih (fun z hz => hn z (List.mem_cons_of_mem _ hz)) hx

/-! ### all names -/
theorem mem_link_iff {l : List Lk} {s t : ByteArray} {n : Nat} (hl : ∀ x ∈ l, x.n ≠ 0) (hn : n ≠ 0) : (∃ x ∈ link l s n, x.name = t) ↔ t = s ∨ ∃ x ∈ l, x.name = t := by
  have h2 : ∀ x ∈ link l s n, x.n ≠ 0 := fun x hx => by
    rcases mem_link hx with ⟨_, rfl⟩ | h
    · exact hn
    · exact hl x h.1
  rw [← find_name h2, find_link]
  by_cases e : t = s
  · rw [if_pos e]; simp [e, hn]
  · rw [if_neg e, find_name hl]; simp [e]
theorem allNames_all (kept : List Lk) (l : List Lk) : ∀ all, (∀ x ∈ all, x.n ≠ 0) → (∀ x ∈ l, x.n ≠ 0) → Rise all →
    Rise (allNames kept all l) ∧ (∀ x ∈ allNames kept all l, x.n ≠ 0) ∧ ∀ s, (∃ x ∈ allNames kept all l, x.name = s) ↔ (∃ x ∈ all, x.name = s) ∨ (find kept s = 0 ∧ ∃ x ∈ l, x.name = s) := by
  induction l with
  | nil => intro all h1 _ h3; exact ⟨h3, h1, fun s => by simp [allNames]⟩
  | cons y t ih =>
    intro all h1 h2 h3
    have hy := h2 y (List.mem_cons_self ..)
    have ht : ∀ x ∈ t, x.n ≠ 0 := fun x hx => h2 x (List.mem_cons_of_mem _ hx)
    unfold allNames
    by_cases e : find kept y.name = 0
    · rw [if_pos e]
      have h1' : ∀ x ∈ link all y.name y.n, x.n ≠ 0 := fun x hx => by
        rcases mem_link hx with ⟨_, rfl⟩ | h
        · exact hy
        · exact h1 x h.1
      obtain ⟨k1, k2, k3⟩ := ih (link all y.name y.n) h1' ht (rise_link h3 _ _)
      refine ⟨k1, k2, fun s => ?_⟩
      rw [k3 s, mem_link_iff h1 hy]
      constructor
      · rintro ((rfl | h) | ⟨h, x, hx, hs⟩)
        · exact .inr ⟨e, y, List.mem_cons_self .., rfl⟩
        · exact .inl h
        · exact .inr ⟨h, x, List.mem_cons_of_mem _ hx, hs⟩
      · rintro (h | ⟨h, x, hx, hs⟩)
        · exact .inl (.inr h)
        · rcases List.mem_cons.1 hx with rfl | hx
          · exact .inl (.inl hs.symm)
          · exact .inr ⟨h, x, hx, hs⟩
    · rw [if_neg e]
      obtain ⟨k1, k2, k3⟩ := ih all h1 ht h3
      refine ⟨k1, k2, fun s => ?_⟩
      rw [k3 s]
      constructor
      · rintro (h | ⟨h, x, hx, hs⟩)
        · exact .inl h
        · exact .inr ⟨h, x, List.mem_cons_of_mem _ hx, hs⟩
      · rintro (h | ⟨h, x, hx, hs⟩)
        · exact .inl h
        · rcases List.mem_cons.1 hx with rfl | hx
          · exact absurd (hs ▸ h) e
          · exact .inr ⟨h, x, hx, hs⟩
/-- The list of all names: rising; just those that are now or sure. -/
theorem all_spec {kept names : List Lk} (hk : ∀ x ∈ kept, x.n ≠ 0) (hn : ∀ x ∈ names, x.n ≠ 0) (hr : Rise kept) :
    Rise (allNames kept kept names) ∧ ∀ s, (∃ x ∈ allNames kept kept names, x.name = s) ↔ find kept s ≠ 0 ∨ find names s ≠ 0 := by
  obtain ⟨h1, _, h3⟩ := allNames_all kept names kept hk hn hr
  refine ⟨h1, fun s => ?_⟩
  rw [h3 s, find_name hk, find_name hn]
  constructor
  · rintro (h | ⟨_, h⟩)
    · exact .inl h
    · exact .inr h
  · rintro (h | h)
    · exact .inl h
    · by_cases e : find kept s = 0
      · exact .inr ⟨e, h⟩
      · exact .inl ((find_name hk).1 e)
theorem allNames_len (kept : List Lk) (l : List Lk) : ∀ all, (allNames kept all l).length ≤ all.length + l.length := by
  induction l with
  | nil => intro all; simp [allNames]
  | cons y t ih =>
    intro all
    unfold allNames
    have h1 := ih (if find kept y.name = 0 then link all y.name y.n else all)
    have h2 := link_len all y.name y.n
    rw [List.length_cons]
    split at h1 <;> rename_i hc <;> simp only [hc, if_true, if_false] <;> omega

/-! ### what is picked -/
theorem pick_cons (kept names : List Lk) (loss k : Nat) (acc t : List Lk) (a : Lk) : ∃ k' x', pick kept names loss k acc (a :: t) = pick kept names loss k' (if x' ≠ 0 then acc ++ [⟨a.name, x'⟩] else acc) t ∧ (x' = find kept a.name ∨ x' = find names a.name) ∧ k ≤ k' ∧ k' ≤ k + 1 := by
  have hx : ∀ {c : Prop} [Decidable c] (x y : Nat), (if c then y else x) = x ∨ (if c then y else x) = y := fun x y => by split <;> simp
  refine ⟨_, _, rfl, hx _ _, ?_, ?_⟩
  · split <;> omega
  · split <;> omega
theorem pick_spec (kept names : List Lk) (loss : Nat) (t : List Lk) : ∀ k acc, Rise t → (∀ b ∈ acc, ∀ a ∈ t, ltB b.name a.name = true) → Rise acc → (∀ b ∈ acc, b.n ≠ 0 ∧ (b.n = find kept b.name ∨ b.n = find names b.name)) →
    Rise (pick kept names loss k acc t).1 ∧ (∀ b ∈ (pick kept names loss k acc t).1, b.n ≠ 0 ∧ (b.n = find kept b.name ∨ b.n = find names b.name)) ∧ (pick kept names loss k acc t).1.length ≤ acc.length + t.length ∧ (pick kept names loss k acc t).2 ≤ k + t.length := by
  induction t with
  | nil => intro k acc _ _ h3 h4; exact ⟨h3, h4, Nat.le_refl _, Nat.le_refl _⟩
  | cons a t ih =>
    intro k acc hr hb hra hn
    obtain ⟨r1, r2⟩ := List.pairwise_cons.1 hr
    obtain ⟨k', x', he, hx, hk1, hk2⟩ := pick_cons kept names loss k acc t a
    rw [he]
    by_cases h0 : x' = 0
    · rw [if_neg (by simp [h0])]
      obtain ⟨i1, i2, i3, i4⟩ := ih k' acc r2 (fun b hb' c hc => hb b hb' c (List.mem_cons_of_mem _ hc)) hra hn
      exact ⟨i1, i2, by rw [List.length_cons]; omega, by rw [List.length_cons]; omega⟩
    · rw [if_pos h0]
      obtain ⟨i1, i2, i3, i4⟩ := ih k' (acc ++ [⟨a.name, x'⟩]) r2 (fun b hb' c hc => by
        rcases List.mem_append.1 hb' with h | h
        · exact hb b h c (List.mem_cons_of_mem _ hc)
        · obtain rfl : b = ⟨a.name, x'⟩ := by simpa using h
          exact r1 c hc) (List.pairwise_append.2 ⟨hra, by simp, fun b hb' c hc => by
            obtain rfl : c = ⟨a.name, x'⟩ := by simpa using hc
            exact hb b hb' a (List.mem_cons_self ..)⟩) (fun b hb' => by
        rcases List.mem_append.1 hb' with h | h
        · exact hn b h
        · obtain rfl : b = ⟨a.name, x'⟩ := by simpa using h
          exact ⟨h0, hx⟩)
      refine ⟨i1, i2, ?_, by rw [List.length_cons]; omega⟩
      rw [List.length_append] at i3
      rw [List.length_cons]
      simp at i3
      omega

/-! ### what is left of the files -/
theorem cut_n (f : Fl) (loss k : Nat) : (cut f loss k).n = f.n := rfl
theorem lose_prefix (files : List Fl) (loss : Nat) (t : List Lk) : ∀ k acc, ∃ r, lose files loss k acc t = acc ++ r := by
  induction t with
  | nil => intro k acc; exact ⟨[], by simp [lose]⟩
  | cons a t ih =>
    intro k acc
    unfold lose
    split
    · exact ih k acc
    · obtain ⟨r, hr⟩ := ih (if (fileAt files a.n).sure < (fileAt files a.n).data.size then k + 1 else k) (acc ++ [cut (fileAt files a.n) loss (if (fileAt files a.n).sure < (fileAt files a.n).data.size then k + 1 else k)])
      refine ⟨_, hr.trans (List.append_assoc _ _ _)⟩
theorem lose_there (files : List Fl) (loss : Nat) (t : List Lk) : ∀ k acc, (∀ x ∈ t, place files x.n < files.length) → ∀ x ∈ t, place (lose files loss k acc t) x.n < (lose files loss k acc t).length := by
  induction t with
  | nil => intro k acc _ x hx; cases hx
  | cons a t ih =>
    intro k acc hf x hx
    have hft : ∀ x ∈ t, place files x.n < files.length := fun x hx => hf x (List.mem_cons_of_mem _ hx)
    unfold lose
    split
    · rename_i hp
      rcases List.mem_cons.1 hx with rfl | hx
      · obtain ⟨r, hr⟩ := lose_prefix files loss t k acc
        rw [hr, place_append_lt hp, List.length_append]
        omega
      · exact ih k acc hft x hx
    · rcases List.mem_cons.1 hx with rfl | hx
      · simp only []
        generalize (if (fileAt files x.n).sure < (fileAt files x.n).data.size then k + 1 else k) = k'
        obtain ⟨r, hr⟩ := lose_prefix files loss t k' (acc ++ [cut (fileAt files x.n) loss k'])
        have hn : (cut (fileAt files x.n) loss k').n = x.n := (cut_n _ _ _).trans (fileAt_n (hf x (List.mem_cons_self ..)))
        have h1 : place (acc ++ [cut (fileAt files x.n) loss k']) x.n < (acc ++ [cut (fileAt files x.n) loss k']).length := by
          have h2 := place_lt_of_mem (l := acc ++ [cut (fileAt files x.n) loss k']) (f := cut (fileAt files x.n) loss k') (List.mem_append_right _ (List.mem_singleton.2 rfl))
          rw [hn] at h2
          exact h2
        rw [hr, place_append_lt h1, List.length_append]
        omega
      · exact ih _ _ hft x hx
theorem cut_ok {f : Fl} (loss k : Nat) : (cut f loss k).sure = (cut f loss k).data.size ∧ (cut f loss k).data.size ≤ f.data.size := by
  refine ⟨rfl, ?_⟩
  unfold cut
  show (if f.sure < f.data.size then _ else _ : ByteArray).size ≤ _
  split
  · rw [ByteArray.size_extract]; omega
  · exact Nat.le_refl _
theorem lose_files {files : List Fl} {loss B l : Nat} (hB : ∀ f ∈ files, f.data.size ≤ B ∧ f.sure ≤ f.data.size ∧ f.n ≤ l) (t : List Lk) : ∀ k acc, (∀ x ∈ t, place files x.n < files.length) → (∀ f ∈ acc, f.data.size ≤ B ∧ f.sure ≤ f.data.size ∧ f.n ≤ l) → ∀ f ∈ lose files loss k acc t, f.data.size ≤ B ∧ f.sure ≤ f.data.size ∧ f.n ≤ l := by
  induction t with
  | nil => intro k acc _ h f hf; exact h f hf
  | cons a t ih =>
    intro k acc hp h
    unfold lose
    have hpt : ∀ x ∈ t, place files x.n < files.length := fun x hx => hp x (List.mem_cons_of_mem _ hx)
    split
    · exact ih k acc hpt h
    · refine ih _ _ hpt fun f hf => ?_
      rcases List.mem_append.1 hf with hf | hf
      · exact h f hf
      · have hm := hB _ (fileAt_mem (hp a (List.mem_cons_self ..)))
        obtain rfl := List.mem_singleton.1 hf
        have hc := cut_ok (f := fileAt files a.n) loss (if (fileAt files a.n).sure < (fileAt files a.n).data.size then k + 1 else k)
        exact ⟨Nat.le_trans hc.2 hm.1, Nat.le_of_eq hc.1, by rw [cut_n]; exact hm.2.2⟩
end Go.Proofs.Ytdohenbicepicaa.Vf

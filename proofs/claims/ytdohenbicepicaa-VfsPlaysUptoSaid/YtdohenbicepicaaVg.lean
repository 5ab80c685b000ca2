/-
  The plain disk: names and files, and what its calls leave of them.
-/
import Derived.Test.YtdohenbicepicaaWa
import Derived.Sort.Walk0
namespace Go.Proofs.Ytdohenbicepicaa.Vf

theorem ltB_iff {a b : ByteArray} : ltB a b = true ↔ a.data.toList < b.data.toList := by
  unfold ltB
  rw [ByteArray.toList_eq, ByteArray.toList_eq, Go.Proofs.bytesLess_eq, decide_eq_true_eq]
theorem ltB_irrefl (a : ByteArray) : ltB a a = false := by
  rw [Bool.eq_false_iff]
  intro h
  exact List.lt_irrefl _ (ltB_iff.1 h)
theorem ltB_trans {a b c : ByteArray} (h : ltB a b = true) (k : ltB b c = true) : ltB a c = true := ltB_iff.2 (List.lt_trans (ltB_iff.1 h) (ltB_iff.1 k))
theorem ltB_ne {a b : ByteArray} (h : ltB a b = true) : a ≠ b := fun e => by rw [e, ltB_irrefl] at h; cases h
theorem ltB_tri (a b : ByteArray) : ltB a b = true ∨ a = b ∨ ltB b a = true := by
  by_cases h1 : a.data.toList < b.data.toList
  · exact .inl (ltB_iff.2 h1)
  · by_cases h2 : b.data.toList < a.data.toList
    · exact .inr (.inr (ltB_iff.2 h2))
    · have e := List.le_antisymm (List.not_lt.1 h2) (List.not_lt.1 h1)
      refine .inr (.inl ?_)
      cases a
      cases b
      simpa using e
theorem eqB_self (a : ByteArray) : eqB a a = true := eqB_iff.2 rfl
theorem eqB_ne {a b : ByteArray} (h : a ≠ b) : eqB a b = false := by
  rw [Bool.eq_false_iff]
  exact fun e => h (eqB_iff.1 e)

theorem find_mem {l : List Lk} {s : ByteArray} (h : find l s ≠ 0) : ∃ x ∈ l, x.name = s ∧ x.n = find l s := by
  induction l with
  | nil => exact absurd rfl h
  | cons x t ih =>
    unfold find at h ⊢
    by_cases e : eqB x.name s = true
    · rw [if_pos e]
      exact ⟨x, List.mem_cons_self .., eqB_iff.1 e, rfl⟩
    · rw [if_neg e] at h ⊢
      obtain ⟨y, hy, hr⟩ := ih h
      exact ⟨y, List.mem_cons_of_mem _ hy, hr⟩
theorem find_none {l : List Lk} {s : ByteArray} (h : ∀ x ∈ l, x.name ≠ s) : find l s = 0 := by
  induction l with
  | nil => rfl
  | cons x t ih =>
    unfold find
    rw [if_neg (by rw [eqB_ne (h x (List.mem_cons_self ..))]; simp)]
    exact ih fun y hy => h y (List.mem_cons_of_mem _ hy)
theorem find_of_mem {l : List Lk} {x : Lk} (hr : Rise l) (hx : x ∈ l) : find l x.name = x.n := by
  induction l with
  | nil => cases hx
  | cons y t ih =>
    obtain ⟨h1, h2⟩ := List.pairwise_cons.1 hr
    unfold find
    rcases List.mem_cons.1 hx with rfl | hx
    · rw [if_pos (eqB_self _)]
    · rw [if_neg (by rw [eqB_ne (ltB_ne (h1 x hx))]; simp)]
      exact ih h2 hx
theorem find_linkGo (s : ByteArray) (n : Nat) (t : ByteArray) (l : List Lk) : ∀ d, find (linkGo s n d l) t = if t = s then (if d then 0 else n) else find l t := by
  induction l with
  | nil =>
    intro d
    cases d
    · unfold linkGo find
      by_cases e : t = s
      · subst e; simp [eqB_self]
      · simp [eqB_ne (fun h => e h.symm), e, find]
    · simp [linkGo, find]
  | cons x l ih =>
    intro d
    unfold linkGo
    by_cases e1 : eqB x.name s = true
    · rw [if_pos e1, ih d]
      by_cases e : t = s
      · rw [if_pos e, if_pos e]
      · rw [if_neg e, if_neg e]
        conv => rhs; unfold find
        rw [if_neg (by rw [eqB_iff.1 e1, eqB_ne (fun h => e h.symm)]; simp)]
    · rw [if_neg e1]
      have hxs : x.name ≠ s := fun h => e1 (eqB_iff.2 h)
      by_cases e2 : (!d && ltB s x.name) = true
      · rw [if_pos e2]
        obtain rfl : d = false := by cases d <;> simp at e2 ⊢
        by_cases e : t = s
        · subst e
          rw [if_pos rfl]
          unfold find
          rw [if_pos (eqB_self _)]
          rfl
        · rw [if_neg e]
          conv => lhs; unfold find
          rw [if_neg (by rw [eqB_ne (fun h => e h.symm)]; simp)]
          unfold find
          rw [ih true, if_neg e]
      · rw [if_neg e2]
        by_cases e : t = s
        · subst e
          rw [if_pos rfl]
          unfold find
          rw [if_neg (by rw [eqB_ne hxs]; simp), ih d, if_pos rfl]
        · rw [if_neg e]
          unfold find
          rw [ih d, if_neg e]
theorem find_link (l : List Lk) (s t : ByteArray) (n : Nat) : find (link l s n) t = if t = s then n else find l t := by
  unfold link
  rw [find_linkGo]
  by_cases h : n = 0
  · subst h; simp
  · simp [h]
theorem mem_linkGo {s : ByteArray} {n : Nat} {x : Lk} {l : List Lk} : ∀ {d}, x ∈ linkGo s n d l → (d = false ∧ x = ⟨s, n⟩) ∨ (x ∈ l ∧ x.name ≠ s) := by
  induction l with
  | nil =>
    intro d h
    cases d
    · exact .inl ⟨rfl, by simpa [linkGo] using h⟩
    · simp [linkGo] at h
  | cons y l ih =>
    intro d h
    unfold linkGo at h
    by_cases e1 : eqB y.name s = true
    · rw [if_pos e1] at h
      rcases ih h with h | h
      · exact .inl h
      · exact .inr ⟨List.mem_cons_of_mem _ h.1, h.2⟩
    · rw [if_neg e1] at h
      have hys : y.name ≠ s := fun h => e1 (eqB_iff.2 h)
      by_cases e2 : (!d && ltB s y.name) = true
      · rw [if_pos e2] at h
        obtain rfl : d = false := by cases d <;> simp at e2 ⊢
        rcases List.mem_cons.1 h with h | h
        · exact .inl ⟨rfl, h⟩
        · rcases List.mem_cons.1 h with rfl | h
          · exact .inr ⟨List.mem_cons_self .., hys⟩
          · rcases ih h with h | h
            · exact absurd h.1 (by simp)
            · exact .inr ⟨List.mem_cons_of_mem _ h.1, h.2⟩
      · rw [if_neg e2] at h
        rcases List.mem_cons.1 h with rfl | h
        · exact .inr ⟨List.mem_cons_self .., hys⟩
        · rcases ih h with h | h
          · exact .inl h
          · exact .inr ⟨List.mem_cons_of_mem _ h.1, h.2⟩
theorem mem_link {l : List Lk} {s : ByteArray} {n : Nat} {x : Lk} (h : x ∈ link l s n) : (n ≠ 0 ∧ x = ⟨s, n⟩) ∨ (x ∈ l ∧ x.name ≠ s) := by
  unfold link at h
  rcases mem_linkGo h with h | h
  · exact .inl ⟨by simpa using h.1, h.2⟩
  · exact .inr h
/-- Behind the place of s all is greater. -/
theorem rise_linkGo (s : ByteArray) (n : Nat) (l : List Lk) : ∀ d, Rise l → Rise (linkGo s n d l) := by
  induction l with
  | nil => intro d _; cases d <;> simp [linkGo, Rise]
  | cons y l ih =>
    intro d hr
    obtain ⟨h1, h2⟩ := List.pairwise_cons.1 hr
    unfold linkGo
    by_cases e1 : eqB y.name s = true
    · rw [if_pos e1]
      exact ih d h2
    · rw [if_neg e1]
      have hys : y.name ≠ s := fun h => e1 (eqB_iff.2 h)
      by_cases e2 : (!d && ltB s y.name) = true
      · rw [if_pos e2]
        obtain rfl : d = false := by cases d <;> simp at e2 ⊢
        have hsy : ltB s y.name = true := by simpa using e2
        have hl : ∀ x ∈ l, ltB s x.name = true := fun x hx => ltB_trans hsy (h1 x hx)
        refine List.pairwise_cons.2 ⟨fun x hx => ?_, List.pairwise_cons.2 ⟨fun x hx => ?_, ih true h2⟩⟩
        · rcases List.mem_cons.1 hx with rfl | hx
          · exact hsy
          · rcases mem_linkGo hx with h | h
            · exact absurd h.1 (by simp)
            · exact hl x h.1
        · rcases mem_linkGo hx with h | h
          · exact absurd h.1 (by simp)
          · exact h1 x h.1
      · rw [if_neg e2]
        refine List.pairwise_cons.2 ⟨fun x hx => ?_, ih d h2⟩
        rcases mem_linkGo hx with ⟨h, rfl⟩ | h
        · subst h
          have hn : ltB s y.name = false := by simpa using e2
          rcases ltB_tri y.name s with h | h | h
          · exact h
          · exact absurd h hys
          · rw [hn] at h; cases h
        · exact h1 x h.1
theorem rise_link {l : List Lk} (h : Rise l) (s : ByteArray) (n : Nat) : Rise (link l s n) := rise_linkGo s n l _ h

/-! ### places of files -/
theorem place_lt_of_mem {l : List Fl} {f : Fl} (h : f ∈ l) : place l f.n < l.length := by
  induction l with
  | nil => cases h
  | cons g t ih =>
    unfold place
    split
    · simp
    · rename_i hne
      rcases List.mem_cons.1 h with rfl | h
      · exact absurd rfl hne
      · have := ih h; simp; omega
theorem place_get {l : List Fl} {n : Nat} (h : place l n < l.length) : (l[place l n]).n = n := by
  induction l with
  | nil => simp at h
  | cons g t ih =>
    by_cases e : g.n = n
    · have hp : place (g :: t) n = 0 := if_pos e
      simp only [hp]
      exact e
    · have hp : place (g :: t) n = place t n + 1 := if_neg e
      rw [hp] at h
      simp only [hp]
      exact ih (by simpa using h)
theorem place_none {l : List Fl} {n : Nat} (h : ∀ f ∈ l, f.n ≠ n) : place l n = l.length := by
  induction l with
  | nil => rfl
  | cons g t ih =>
    unfold place
    rw [if_neg (h g (List.mem_cons_self ..)), ih fun f hf => h f (List.mem_cons_of_mem _ hf)]
    rfl
theorem place_append_lt {l : List Fl} {n : Nat} (h : place l n < l.length) (r : List Fl) : place (l ++ r) n = place l n := by
  induction l with
  | nil => simp at h
  | cons g t ih =>
    rw [List.cons_append]
    unfold place at h ⊢
    by_cases e : g.n = n
    · rw [if_pos e, if_pos e]
    · rw [if_neg e] at h
      rw [if_neg e, if_neg e, ih (by simpa using h)]
theorem place_append_ge {l : List Fl} {n : Nat} (h : ∀ f ∈ l, f.n ≠ n) (r : List Fl) : place (l ++ r) n = l.length + place r n := by
  induction l with
  | nil => simp
  | cons g t ih =>
    rw [List.cons_append]
    conv => lhs; unfold place
    rw [if_neg (h g (List.mem_cons_self ..)), ih fun f hf => h f (List.mem_cons_of_mem _ hf), List.length_cons]
    omega
theorem place_modify (l : List Fl) (n : Nat) (G : Fl → Fl) (hG : ∀ f, (G f).n = f.n) : ∀ p, place (l.modify p G) n = place l n := by
  induction l with
  | nil => intro p; simp
  | cons g t ih =>
    intro p
    cases p with
    | zero =>
      rw [List.modify_zero_cons]
      unfold place
      rw [hG]
    | succ p =>
      rw [List.modify_succ_cons]
      unfold place
      rw [ih p]
theorem fileAt_get {l : List Fl} {n : Nat} (h : place l n < l.length) : fileAt l n = l[place l n] := by
  unfold fileAt
  rw [List.getD, List.getElem?_eq_getElem h]
  rfl
theorem fileAt_mem {l : List Fl} {n : Nat} (h : place l n < l.length) : fileAt l n ∈ l := by
  rw [fileAt_get h]
  exact List.getElem_mem h
theorem fileAt_n {l : List Fl} {n : Nat} (h : place l n < l.length) : (fileAt l n).n = n := by
  rw [fileAt_get h]
  exact place_get h
theorem fileAt_append_lt {l : List Fl} {n : Nat} (h : place l n < l.length) (r : List Fl) : fileAt (l ++ r) n = fileAt l n := by
  have h2 : place (l ++ r) n < (l ++ r).length := by rw [place_append_lt h, List.length_append]; omega
  rw [fileAt_get h, fileAt_get h2]
  simp only [place_append_lt h]
  exact List.getElem_append_left h
theorem fileAt_new {l : List Fl} {f : Fl} (h : ∀ g ∈ l, g.n ≠ f.n) : fileAt (l ++ [f]) f.n = f := by
  have hp : place (l ++ [f]) f.n = l.length := by rw [place_append_ge h]; simp [place]
  unfold fileAt
  rw [hp]
  simp
theorem fileAt_modify {l : List Fl} {n m : Nat} {G : Fl → Fl} (hG : ∀ f, (G f).n = f.n) (hn : place l n < l.length) (hm : place l m < l.length) : fileAt (l.modify (place l m) G) n = if n = m then G (fileAt l n) else fileAt l n := by
  have h2 : place (l.modify (place l m) G) n < (l.modify (place l m) G).length := by rw [place_modify _ _ _ hG, List.length_modify]; exact hn
  rw [fileAt_get h2, fileAt_get hn]
  simp only [place_modify _ _ _ hG, List.getElem_modify]
  by_cases e : n = m
  · subst e; simp
  · have hne : place l m ≠ place l n := fun h => e (by
      have h1 := place_get hn
      have h2 := place_get hm
      simp only [h] at h2
      omega)
    rw [if_neg hne, if_neg e]
end Go.Proofs.Ytdohenbicepicaa.Vf

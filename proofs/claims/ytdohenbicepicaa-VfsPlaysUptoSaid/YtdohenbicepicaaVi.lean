/-
  The plain disk: its calls keep its bounds.
-/
import Derived.Test.YtdohenbicepicaaWk
import Derived.Test.YtdohenbicepicaaVh
namespace Go.Proofs.Ytdohenbicepicaa.Vf

theorem Rise.nodup {l : List Lk} (h : Rise l) : (l.map (·.name)).Nodup := List.pairwise_map.2 (List.Pairwise.imp ltB_ne h)
theorem len_pool {l : List Lk} {U : List ByteArray} (h : Rise l) (hs : ∀ x ∈ l, x.name ∈ U) : l.length ≤ U.length := by
  have h1 := len_le_of_sub (l.map (·.name)) U h.nodup fun n hn => by
    obtain ⟨x, hx, rfl⟩ := List.mem_map.1 hn
    exact hs x hx
  rwa [List.length_map] at h1
/-- A disk that c calls have led to, and the names that there have been. -/
structure OkU (D : Dk) (c m : Nat) : Prop where
  ok : Ok D c m
  pool : ∃ U : List ByteArray, U.length ≤ c ∧ ∀ x, x ∈ D.names ∨ x ∈ D.kept → x.name ∈ U
theorem Ok.mono {D : Dk} {c c' m : Nat} (h : Ok D c m) (hc : c ≤ c') : Ok D c' m :=
  ⟨Nat.le_trans h.names hc, Nat.le_trans h.kept hc, h.nrise, h.krise, h.nums, Nat.le_trans h.last hc, Nat.le_trans h.steps hc, h.armed, h.fault, fun f hf => ⟨Nat.le_trans (h.files f hf).1 (Nat.mul_le_mul_right _ hc), (h.files f hf).2⟩⟩
theorem OkU.mono {D : Dk} {c c' m : Nat} (h : OkU D c m) (hc : c ≤ c') : OkU D c' m := by
  obtain ⟨h1, U, h2, h3⟩ := h
  exact ⟨h1.mono hc, U, Nat.le_trans h2 hc, h3⟩
theorem okU_new (m : Nat) : OkU new 0 m :=
  ⟨⟨Nat.le_refl _, Nat.le_refl _, List.Pairwise.nil, List.Pairwise.nil, fun x hx => (by rcases hx with h | h <;> cases h), Nat.le_refl _, Nat.le_refl _, ⟨Int.le_refl (-1), by show (-1 : Int) ≤ _; omega⟩, fun h => absurd (show (0 : Int) ≤ -1 from h) (by omega), fun f hf => (by cases hf)⟩, [], Nat.le_refl _, fun x hx => (by rcases hx with h | h <;> cases h)⟩
theorem OkU.arm {D : Dk} {c m : Nat} (h : OkU D c m) (n e : Int) (hn : n ≤ 9223372036854775807) : OkU (arm D n e).2 c m := by
  unfold Vf.arm
  split
  · exact h
  · rename_i hc
    refine ⟨⟨h.ok.names, h.ok.kept, h.ok.nrise, h.ok.krise, h.ok.nums, h.ok.last, h.ok.steps, ⟨by show -1 ≤ n; omega, hn⟩, fun _ => ?_, h.ok.files⟩, h.pool⟩
    show e = 13 ∨ e = 14 ∨ e = 15
    omega
theorem OkU.calm {D : Dk} {c m : Nat} (h : OkU D c m) : OkU (calm D) c m :=
  ⟨⟨h.ok.names, h.ok.kept, h.ok.nrise, h.ok.krise, h.ok.nums, h.ok.last, h.ok.steps, ⟨Int.le_refl (-1), by show (-1 : Int) ≤ _; omega⟩, fun h => absurd (show (0 : Int) ≤ -1 from h) (by omega), h.ok.files⟩, h.pool⟩
/-- The fault, or one step more. -/
theorem OkU.done {D : Dk} {c m : Nat} (h : OkU D c m) : OkU (done D).2 (c + 1) m := by
  obtain ⟨hu, hp⟩ := h.mono (Nat.le_succ c)
  unfold Vf.done
  have ha := h.ok.armed
  have hf := h.ok.fault
  have hs := h.ok.steps
  split
  · exact ⟨⟨hu.names, hu.kept, hu.nrise, hu.krise, hu.nums, hu.last, hu.steps, ⟨Int.le_refl (-1), by show (-1 : Int) ≤ _; omega⟩, fun h => absurd (show (0 : Int) ≤ -1 from h) (by omega), hu.files⟩, hp⟩
  · rename_i h0
    refine ⟨⟨hu.names, hu.kept, hu.nrise, hu.krise, hu.nums, hu.last, by show D.steps + 1 ≤ c + 1; omega, ?_, ?_, hu.files⟩, hp⟩
    · show -1 ≤ (if 0 < D.armed then D.armed - 1 else D.armed) ∧ (if 0 < D.armed then D.armed - 1 else D.armed) ≤ 9223372036854775807
      split <;> omega
    · show 0 ≤ (if 0 < D.armed then D.armed - 1 else D.armed) → _
      split
      · intro _; exact hf (by omega)
      · intro _; exact hf (by omega)
theorem OkU.create {D : Dk} {c m : Nat} (h : OkU D c m) (s : ByteArray) : OkU (create D s).2 (c + 1) m := by
  unfold Vf.create
  split
  · exact h.mono (Nat.le_succ c)
  · rename_i h1
    split
    · exact h.done
    · have hd := h.done
      obtain ⟨e1, e2, e3, e4⟩ := done_kept D
      have hok : okN s = true := (first_ok (by simpa using h1)).1
      have hfn : ∀ f ∈ D.files, f.n ≠ D.last + 1 := fun f hf e => by have := (h.ok.files f hf).2.2; omega
      have hplace : ∀ n, place D.files n < D.files.length → place (D.files ++ [(⟨D.last + 1, ByteArray.empty, 0⟩ : Fl)]) n < (D.files ++ [(⟨D.last + 1, ByteArray.empty, 0⟩ : Fl)]).length := fun n hn => by rw [place_append_lt hn, List.length_append]; omega
      have hnew : place (D.files ++ [(⟨D.last + 1, ByteArray.empty, 0⟩ : Fl)]) (D.last + 1) < (D.files ++ [(⟨D.last + 1, ByteArray.empty, 0⟩ : Fl)]).length := place_lt_of_mem (f := ⟨D.last + 1, ByteArray.empty, 0⟩) (List.mem_append_right _ (List.mem_singleton.2 rfl))
      have hn := h.ok.names
      have hll := link_len D.names s (D.last + 1)
      refine ⟨⟨by show (link D.names s (D.last + 1)).length ≤ c + 1; omega, hd.ok.kept, rise_link h.ok.nrise _ _, hd.ok.krise, ?_, by show D.last + 1 ≤ c + 1; have := h.ok.last; omega, hd.ok.steps, hd.ok.armed, hd.ok.fault, ?_⟩, ?_⟩
      · intro x hx
        rcases hx with hx | hx
        · rcases mem_link hx with ⟨_, rfl⟩ | hx
          · exact ⟨by show 1 ≤ D.last + 1; omega, Nat.le_refl _, hok, hnew⟩
          · have := h.ok.nums x (.inl hx.1)
            exact ⟨this.1, by show x.n ≤ D.last + 1; omega, this.2.2.1, hplace _ this.2.2.2⟩
        · have hx' : x ∈ D.kept := by rw [← e3]; exact hx
          have := h.ok.nums x (.inr hx')
          exact ⟨this.1, by show x.n ≤ D.last + 1; omega, this.2.2.1, hplace _ this.2.2.2⟩
      · intro f hf
        rcases List.mem_append.1 hf with hf | hf
        · have := h.ok.files f hf
          exact ⟨Nat.le_trans this.1 (Nat.mul_le_mul_right _ (Nat.le_succ c)), this.2.1, by show f.n ≤ D.last + 1; omega⟩
        · obtain rfl := List.mem_singleton.1 hf
          exact ⟨Nat.zero_le _, Nat.le_refl _, Nat.le_refl _⟩
      · obtain ⟨U, hu1, hu2⟩ := h.pool
        refine ⟨s :: U, by simp; omega, fun x hx => ?_⟩
        rcases hx with hx | hx
        · rcases mem_link hx with ⟨_, rfl⟩ | hx
          · exact List.mem_cons_self ..
          · exact List.mem_cons_of_mem _ (hu2 x (.inl hx.1))
        · have hx' : x ∈ D.kept := by rw [← e3]; exact hx
          exact List.mem_cons_of_mem _ (hu2 x (.inr hx'))
theorem OkU.change {D : Dk} {c m : Nat} (h : OkU D c m) (s data : ByteArray) (sy : Bool) (hm : data.size ≤ m) : OkU (change D s data sy).2 (c + 1) m := by
  unfold Vf.change
  split
  · exact h.mono (Nat.le_succ c)
  · split
    · exact h.mono (Nat.le_succ c)
    · split
      · exact h.done
      · have hd := h.done
        obtain ⟨e1, e2, e3, e4⟩ := done_kept D
        refine ⟨⟨hd.ok.names, hd.ok.kept, hd.ok.nrise, hd.ok.krise, fun x hx => ?_, hd.ok.last, hd.ok.steps, hd.ok.armed, hd.ok.fault, fun f hf => ?_⟩, hd.pool⟩
        · have hx' := hd.ok.nums x hx
          refine ⟨hx'.1, hx'.2.1, hx'.2.2.1, ?_⟩
          show place (D.files.modify _ _) x.n < (D.files.modify _ _).length
          rw [place_modify _ _ (fun f => chg f data sy) (fun _ => rfl), List.length_modify, ← e1]
          exact hx'.2.2.2
        · have hf' : f ∈ D.files.modify (place D.files (find D.names s)) (fun f => chg f data sy) := hf
          obtain ⟨i, hi, rfl⟩ := List.mem_iff_getElem.1 hf'
          have hi' : i < D.files.length := by simpa using hi
          have hfi := h.ok.files _ (List.getElem_mem hi')
          rw [List.getElem_modify]
          have hlast : (Vf.done D).2.last = D.last := e4
          split
          · refine ⟨?_, ?_, by show D.files[i].n ≤ (Vf.done D).2.last; rw [hlast]; exact hfi.2.2⟩
            · show (D.files[i].data ++ data).size ≤ (c + 1) * m
              rw [ByteArray.size_append, Nat.add_mul]
              omega
            · show (if sy then (D.files[i].data ++ data).size else D.files[i].sure) ≤ (D.files[i].data ++ data).size
              split
              · exact Nat.le_refl _
              · rw [ByteArray.size_append]; omega
          · exact ⟨Nat.le_trans hfi.1 (Nat.mul_le_mul_right _ (Nat.le_succ c)), hfi.2.1, by show D.files[i].n ≤ (Vf.done D).2.last; rw [hlast]; exact hfi.2.2⟩
/-- Names that lead where names led, or of the pool and s. -/
theorem OkU.renamed {D : Dk} {c m : Nat} (h : OkU D c m) (l : List Lk) (s : ByteArray) (hr : Rise l) (hl : l.length ≤ c + 1) (hs : okN s = true) (hx : ∀ x ∈ l, (∃ y ∈ D.names, y.n = x.n) ∧ (x.name = s ∨ ∃ y ∈ D.names, y.name = x.name)) : OkU { (Vf.done D).2 with names := l } (c + 1) m := by
  have hd := h.done
  obtain ⟨e1, e2, e3, e4⟩ := done_kept D
  refine ⟨⟨hl, hd.ok.kept, hr, hd.ok.krise, fun x hx' => ?_, hd.ok.last, hd.ok.steps, hd.ok.armed, hd.ok.fault, hd.ok.files⟩, ?_⟩
  · rcases hx' with hx' | hx'
    · obtain ⟨⟨y, hy, hyn⟩, h2⟩ := hx x hx'
      have hyy := hd.ok.nums y (.inl (by rw [e2]; exact hy))
      rw [hyn] at hyy
      refine ⟨hyy.1, hyy.2.1, ?_, hyy.2.2.2⟩
      rcases h2 with h2 | ⟨z, hz, h2⟩
      · rw [h2]; exact hs
      · rw [← h2]; exact (h.ok.nums z (.inl hz)).2.2.1
    · exact hd.ok.nums x (.inr hx')
  · obtain ⟨U, hu1, hu2⟩ := h.pool
    refine ⟨s :: U, by simp; omega, fun x hx' => ?_⟩
    rcases hx' with hx' | hx'
    · rcases (hx x hx').2 with h2 | ⟨z, hz, h2⟩
      · rw [h2]; exact List.mem_cons_self ..
      · rw [← h2]; exact List.mem_cons_of_mem _ (hu2 z (.inl hz))
    · have hx2 : x ∈ D.kept := by rw [← e3]; exact hx'
      exact List.mem_cons_of_mem _ (hu2 x (.inr hx2))
theorem link0_len (l : List Lk) (s : ByteArray) : (link l s 0).length ≤ l.length := by
  have h := linkGo_len s 0 l true
  unfold link
  simpa using h
theorem OkU.remove {D : Dk} {c m : Nat} (h : OkU D c m) (s : ByteArray) : OkU (remove D s).2 (c + 1) m := by
  unfold Vf.remove
  split
  · exact h.mono (Nat.le_succ c)
  · rename_i h1
    split
    · exact h.mono (Nat.le_succ c)
    · split
      · exact h.done
      · have hn := h.ok.names
        have hl := link0_len D.names s
        refine h.renamed _ s (rise_link h.ok.nrise _ _) (by omega) (first_ok (by simpa using h1)).1 fun x hx => ?_
        rcases mem_link hx with h2 | h2
        · exact absurd rfl h2.1
        · exact ⟨⟨x, h2.1, rfl⟩, .inr ⟨x, h2.1, rfl⟩⟩
theorem OkU.rename {D : Dk} {c m : Nat} (h : OkU D c m) (s t : ByteArray) : OkU (rename D s t).2 (c + 1) m := by
  unfold Vf.rename
  split
  · exact h.mono (Nat.le_succ c)
  · rename_i h1
    split
    · exact h.mono (Nat.le_succ c)
    · rename_i h2
      split
      · exact h.done
      · have hn := h.ok.names
        have hl := link0_len D.names s
        have hl2 := link_len (link D.names s 0) t (find D.names s)
        have hok := (first_ok (by simpa using h1) : (okN s && okN t) = true ∧ _).1
        simp only [Bool.and_eq_true] at hok
        refine h.renamed _ t (rise_link (rise_link h.ok.nrise _ _) _ _) (by omega) hok.2 fun x hx => ?_
        rcases mem_link hx with ⟨_, rfl⟩ | h3
        · obtain ⟨y, hy, _, hy2⟩ := find_mem h2
          exact ⟨⟨y, hy, hy2⟩, .inl rfl⟩
        · rcases mem_link h3.1 with h4 | h4
          · exact absurd rfl h4.1
          · exact ⟨⟨x, h4.1, rfl⟩, .inr ⟨x, h4.1, rfl⟩⟩
theorem OkU.syncDir {D : Dk} {c m : Nat} (h : OkU D c m) : OkU (syncDir D).2 (c + 1) m := by
  unfold Vf.syncDir
  split
  · exact h.mono (Nat.le_succ c)
  · split
    · exact h.done
    · have hd := h.done
      obtain ⟨e1, e2, e3, e4⟩ := done_kept D
      have hn := h.ok.names
      refine ⟨⟨hd.ok.names, by show D.names.length ≤ c + 1; omega, hd.ok.nrise, h.ok.nrise, fun x hx => ?_, hd.ok.last, hd.ok.steps, hd.ok.armed, hd.ok.fault, hd.ok.files⟩, ?_⟩
      · refine hd.ok.nums x (.inl ?_)
        rcases hx with hx | hx
        · exact hx
        · rw [e2]; exact hx
      · obtain ⟨U, hu1, hu2⟩ := hd.pool
        refine ⟨U, hu1, fun x hx => hu2 x (.inl ?_)⟩
        rcases hx with hx | hx
        · exact hx
        · rw [e2]; exact hx
theorem OkU.restart {D : Dk} {c m : Nat} (h : OkU D c m) (loss : Int) : OkU (restart D loss).2 (c + 1) m := by
  have hkn : ∀ x ∈ D.kept, x.n ≠ 0 := fun x hx => by have := (h.ok.nums x (.inr hx)).1; omega
  have hnn : ∀ x ∈ D.names, x.n ≠ 0 := fun x hx => by have := (h.ok.nums x (.inl hx)).1; omega
  have hsp := pick_spec D.kept D.names (u64 loss) (allNames D.kept D.kept D.names) 0 [] (all_spec hkn hnn h.ok.krise).1 (fun b hb => by cases hb) List.Pairwise.nil (fun b hb => by cases hb)
  obtain ⟨U, hu1, hu2⟩ := h.pool
  unfold Vf.restart
  simp only []
  generalize hpk : pick D.kept D.names (u64 loss) 0 [] (allNames D.kept D.kept D.names) = pk at *
  obtain ⟨N, kk⟩ := pk
  simp only at hsp ⊢
  have hfrom : ∀ x ∈ N, ∃ z, (z ∈ D.names ∨ z ∈ D.kept) ∧ z.name = x.name ∧ z.n = x.n := by
    intro x hx
    obtain ⟨h0, h1 | h1⟩ := hsp.2.1 x hx
    · obtain ⟨z, hz, hzn, h2⟩ := find_mem (l := D.kept) (s := x.name) (by rw [← h1]; exact h0)
      exact ⟨z, .inr hz, hzn, by rw [h2, ← h1]⟩
    · obtain ⟨z, hz, hzn, h2⟩ := find_mem (l := D.names) (s := x.name) (by rw [← h1]; exact h0)
      exact ⟨z, .inl hz, hzn, by rw [h2, ← h1]⟩
  have hpool : ∀ x ∈ N, x.name ∈ U := fun x hx => by
    obtain ⟨z, hz, h1, _⟩ := hfrom x hx
    rw [← h1]; exact hu2 z hz
  have hnum : ∀ x ∈ N, 1 ≤ x.n ∧ x.n ≤ D.last ∧ okN x.name = true ∧ place D.files x.n < D.files.length := fun x hx => by
    obtain ⟨z, hz, h1, h2⟩ := hfrom x hx
    rw [← h1, ← h2]; exact h.ok.nums z hz
  have hlen := len_pool hsp.1 hpool
  have hla := h.ok.last
  have hst := h.ok.steps
  refine ⟨⟨by show N.length ≤ c + 1; omega, by show N.length ≤ c + 1; omega, hsp.1, hsp.1, fun x hx => ?_, by show D.last ≤ c + 1; omega, by show D.steps ≤ c + 1; omega, ⟨Int.le_refl (-1), by show (-1 : Int) ≤ _; omega⟩, fun h => absurd (show (0 : Int) ≤ -1 from h) (by omega), ?_⟩, U, by omega, fun x hx => hpool x (hx.elim id id)⟩
  · have hx' : x ∈ N := hx.elim id id
    have h1 := hnum x hx'
    exact ⟨h1.1, h1.2.1, h1.2.2.1, lose_there D.files (u64 loss) N kk [] (fun y hy => (hnum y hy).2.2.2) x hx'⟩
  · intro f hf
    have h1 := lose_files (loss := u64 loss) h.ok.files N kk [] (fun y hy => (hnum y hy).2.2.2) (fun f hf => by cases hf) f hf
    exact ⟨Nat.le_trans h1.1 (Nat.mul_le_mul_right _ (Nat.le_succ c)), h1.2⟩
end Go.Proofs.Ytdohenbicepicaa.Vf

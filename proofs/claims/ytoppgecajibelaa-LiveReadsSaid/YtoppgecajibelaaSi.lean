/-
  Four sets beside one another: what each call leaves.
-/
import Derived.Test.YtoppgecajibelaaSh
namespace Go.Proofs.Ytoppgecajibelaa
open Go.RowKit
theorem turn {w0 w w' : World} {o : Nat → Nat} {i : Nat} {F' : Nat → Prop} (hi : i ≠ 0) (hK : KeptF (fun k => o k = i) w w') (hF' : ∀ k, F' k → o k = i ∨ w.heap.size ≤ k) (hlt : ∀ k, F' k → k < w'.heap.size)
    (hb : ∀ k, o k ≠ 0 → w0.heap.size ≤ k ∧ k < w.heap.size) (hold : Below w0.heap.size w0 w) :
    ∃ o' : Nat → Nat, (∀ k, o' k = i ↔ F' k) ∧ (∀ j, j ≠ i → j ≠ 0 → ∀ k, o' k = j ↔ o k = j) ∧ (∀ k, o' k ≠ 0 → w0.heap.size ≤ k ∧ k < w'.heap.size) ∧ Below w0.heap.size w0 w' ∧ (∀ k, o k ≠ 0 → o k ≠ i → w'.heap[k]? = w.heap[k]?) ∧ ∀ k, k < w.heap.size → o k = 0 → o' k = 0 ∧ w'.heap[k]? = w.heap[k]? := by
  obtain ⟨o', h1, h2⟩ := owner o i w.heap.size hi F' hF' (fun k hk => (hb k hk).2)
  have hs := hold.size
  refine ⟨o', h1, h2, fun k hk => ?_, KeptF.below hold hK (fun k hk => (hb k (by omega)).1) hs, fun k h3 h4 => hK.block k (hb k h3).2 h4, fun k h3 h4 => ⟨?_, hK.block k h3 (fun q => hi (q.symm.trans h4))⟩⟩
  rotate_left
  · rcases Nat.eq_zero_or_pos (o' k) with q | q
    · exact q
    · exfalso
      by_cases e : o' k = i
      · rcases hF' k ((h1 k).1 e) with r | r
        · omega
        · omega
      · have := (h2 _ e (by omega) k).1 rfl
        omega
  by_cases e : o' k = i
  · have h3 := (h1 k).1 e
    refine ⟨?_, hlt k h3⟩
    rcases hF' k h3 with q | q
    · exact (hb k (by omega)).1
    · omega
  · have h3 := (h2 _ e hk k).1 rfl
    have h4 := hb k (by omega)
    exact ⟨h4.1, Nat.lt_of_lt_of_le h4.2 hK.size⟩
theorem St.below {M : Lies} (hM : LiesC M) {w0 w w' : World} {o : Nat → Nat} {ps pc pw pv n : Nat} {Gs Gc Gw Gv : List Nat} (h : St M w0 w o ps pc pw pv n Gs Gc Gw Gv) (hb : Below w.heap.size w w') : St M w0 w' o ps pc pw pv n Gs Gc Gw Gv :=
  ⟨hM.keep h.s fun k hk => hb.block k (hM.lt h.s k hk), hM.keep h.c fun k hk => hb.block k (hM.lt h.c k hk), refF_lies.keep h.r fun k hk => hb.block k (refF_lies.lt h.r k hk), refF_lies.keep h.v fun k hk => hb.block k (refF_lies.lt h.v k hk), fun k hk => ⟨(h.base k hk).1, Nat.lt_of_lt_of_le (h.base k hk).2 hb.size⟩, h.old.trans (hb.mono h.old.size)⟩
theorem St.kill_s {M : Lies} (hM : LiesC M) {w0 w : World} {o : Nat → Nat} {ps pc pw pv n : Nat} {Gs Gc Gw Gv : List Nat} (h : St M w0 w o ps pc pw pv n Gs Gc Gw Gv) {f : FuncId} (hf : KillC M f) (x : Int) :
    Calls Try.prog f #[.pointer (some ⟨ps, 0, none⟩), .int .i64 x] w fun e w' => e = .returned (.bool (Ls.lv n Gs x)) ∧ ∃ o', St M w0 w' o' ps pc pw pv n (Ls.kill n Gs x) Gc Gw Gv ∧ ∀ k, k < w.heap.size → o k = 0 → o' k = 0 ∧ w'.heap[k]? = w.heap[k]? := by
  refine (hf w _ ps n Gs x h.s).mono ?_
  rintro e w' ⟨h1, F', h2, h3, h4⟩
  obtain ⟨o', t1, t2, t3, t4, t5, t6⟩ := turn (i := 1) (by decide) h3 h4 (hM.lt h2) h.base h.old
  exact ⟨h1, o', ⟨Lies.at_iff (M := M) h2 fun k => (t1 k).symm, (Lies.at_iff (M := M) (hM.keep h.c (fun k (hk : o k = 2) => t5 k (by omega) (by omega))) fun k => (t2 2 (by decide) (by decide) k).symm), (Lies.at_iff (M := RefF) (refF_lies.keep h.r (fun k (hk : o k = 3) => t5 k (by omega) (by omega))) fun k => (t2 3 (by decide) (by decide) k).symm), (Lies.at_iff (M := RefF) (refF_lies.keep h.v (fun k (hk : o k = 4) => t5 k (by omega) (by omega))) fun k => (t2 4 (by decide) (by decide) k).symm), t3, t4⟩, t6⟩
theorem St.kill_c {M : Lies} (hM : LiesC M) {w0 w : World} {o : Nat → Nat} {ps pc pw pv n : Nat} {Gs Gc Gw Gv : List Nat} (h : St M w0 w o ps pc pw pv n Gs Gc Gw Gv) {f : FuncId} (hf : KillC M f) (x : Int) :
    Calls Try.prog f #[.pointer (some ⟨pc, 0, none⟩), .int .i64 x] w fun e w' => e = .returned (.bool (Ls.lv n Gc x)) ∧ ∃ o', St M w0 w' o' ps pc pw pv n Gs (Ls.kill n Gc x) Gw Gv ∧ ∀ k, k < w.heap.size → o k = 0 → o' k = 0 ∧ w'.heap[k]? = w.heap[k]? := by
  refine (hf w _ pc n Gc x h.c).mono ?_
  rintro e w' ⟨h1, F', h2, h3, h4⟩
  obtain ⟨o', t1, t2, t3, t4, t5, t6⟩ := turn (i := 2) (by decide) h3 h4 (hM.lt h2) h.base h.old
  exact ⟨h1, o', ⟨(Lies.at_iff (M := M) (hM.keep h.s (fun k (hk : o k = 1) => t5 k (by omega) (by omega))) fun k => (t2 1 (by decide) (by decide) k).symm), Lies.at_iff (M := M) h2 fun k => (t1 k).symm, (Lies.at_iff (M := RefF) (refF_lies.keep h.r (fun k (hk : o k = 3) => t5 k (by omega) (by omega))) fun k => (t2 3 (by decide) (by decide) k).symm), (Lies.at_iff (M := RefF) (refF_lies.keep h.v (fun k (hk : o k = 4) => t5 k (by omega) (by omega))) fun k => (t2 4 (by decide) (by decide) k).symm), t3, t4⟩, t6⟩
theorem St.kill_r {M : Lies} (hM : LiesC M) {w0 w : World} {o : Nat → Nat} {ps pc pw pv n : Nat} {Gs Gc Gw Gv : List Nat} (h : St M w0 w o ps pc pw pv n Gs Gc Gw Gv) (x : Int) :
    Calls Try.prog 13 #[.pointer (some ⟨pw, 0, none⟩), .int .i64 x] w fun e w' => e = .returned (.bool (Ls.lv n Gw x)) ∧ ∃ o', St M w0 w' o' ps pc pw pv n Gs Gc (Ls.kill n Gw x) Gv ∧ ∀ k, k < w.heap.size → o k = 0 → o' k = 0 ∧ w'.heap[k]? = w.heap[k]? := by
  refine (refF_kill w _ pw n Gw x h.r).mono ?_
  rintro e w' ⟨h1, F', h2, h3, h4⟩
  obtain ⟨o', t1, t2, t3, t4, t5, t6⟩ := turn (i := 3) (by decide) h3 h4 (refF_lies.lt h2) h.base h.old
  exact ⟨h1, o', ⟨(Lies.at_iff (M := M) (hM.keep h.s (fun k (hk : o k = 1) => t5 k (by omega) (by omega))) fun k => (t2 1 (by decide) (by decide) k).symm), (Lies.at_iff (M := M) (hM.keep h.c (fun k (hk : o k = 2) => t5 k (by omega) (by omega))) fun k => (t2 2 (by decide) (by decide) k).symm), Lies.at_iff (M := RefF) h2 fun k => (t1 k).symm, (Lies.at_iff (M := RefF) (refF_lies.keep h.v (fun k (hk : o k = 4) => t5 k (by omega) (by omega))) fun k => (t2 4 (by decide) (by decide) k).symm), t3, t4⟩, t6⟩
theorem St.kill_v {M : Lies} (hM : LiesC M) {w0 w : World} {o : Nat → Nat} {ps pc pw pv n : Nat} {Gs Gc Gw Gv : List Nat} (h : St M w0 w o ps pc pw pv n Gs Gc Gw Gv) (x : Int) :
    Calls Try.prog 13 #[.pointer (some ⟨pv, 0, none⟩), .int .i64 x] w fun e w' => e = .returned (.bool (Ls.lv n Gv x)) ∧ ∃ o', St M w0 w' o' ps pc pw pv n Gs Gc Gw (Ls.kill n Gv x) ∧ ∀ k, k < w.heap.size → o k = 0 → o' k = 0 ∧ w'.heap[k]? = w.heap[k]? := by
  refine (refF_kill w _ pv n Gv x h.v).mono ?_
  rintro e w' ⟨h1, F', h2, h3, h4⟩
  obtain ⟨o', t1, t2, t3, t4, t5, t6⟩ := turn (i := 4) (by decide) h3 h4 (refF_lies.lt h2) h.base h.old
  exact ⟨h1, o', ⟨(Lies.at_iff (M := M) (hM.keep h.s (fun k (hk : o k = 1) => t5 k (by omega) (by omega))) fun k => (t2 1 (by decide) (by decide) k).symm), (Lies.at_iff (M := M) (hM.keep h.c (fun k (hk : o k = 2) => t5 k (by omega) (by omega))) fun k => (t2 2 (by decide) (by decide) k).symm), (Lies.at_iff (M := RefF) (refF_lies.keep h.r (fun k (hk : o k = 3) => t5 k (by omega) (by omega))) fun k => (t2 3 (by decide) (by decide) k).symm), Lies.at_iff (M := RefF) h2 fun k => (t1 k).symm, t3, t4⟩, t6⟩
theorem St.copy_c {M : Lies} (hM : LiesC M) {w0 w : World} {o : Nat → Nat} {ps pc pw pv n : Nat} {Gs Gc Gw Gv : List Nat} (h : St M w0 w o ps pc pw pv n Gs Gc Gw Gv) {f : FuncId} (hf : CopyC M f) :
    Calls Try.prog f #[.pointer (some ⟨ps, 0, none⟩)] w fun e w' => ∃ p' o', e = .returned (.pointer (some ⟨p', 0, none⟩)) ∧ St M w0 w' o' ps p' pw pv n Gs Gs Gw Gv ∧ ∀ k, k < w.heap.size → o k = 0 → o' k = 0 ∧ w'.heap[k]? = w.heap[k]? := by
  refine (hf w _ ps n Gs h.s).mono ?_
  rintro e w' ⟨F', p', h1, h2, h3, h4⟩
  obtain ⟨o', t1, t2, t3, t4, t5, t6⟩ := turn (i := 2) (by decide) (KeptF.of_below h4) (fun k hk => .inr (h3 k hk)) (hM.lt h2) h.base h.old
  exact ⟨p', o', h1, ⟨(Lies.at_iff (M := M) (hM.keep h.s (fun k (hk : o k = 1) => t5 k (by omega) (by omega))) fun k => (t2 1 (by decide) (by decide) k).symm), Lies.at_iff (M := M) h2 fun k => (t1 k).symm, (Lies.at_iff (M := RefF) (refF_lies.keep h.r (fun k (hk : o k = 3) => t5 k (by omega) (by omega))) fun k => (t2 3 (by decide) (by decide) k).symm), (Lies.at_iff (M := RefF) (refF_lies.keep h.v (fun k (hk : o k = 4) => t5 k (by omega) (by omega))) fun k => (t2 4 (by decide) (by decide) k).symm), t3, t4⟩, t6⟩
theorem St.copy_v {M : Lies} (hM : LiesC M) {w0 w : World} {o : Nat → Nat} {ps pc pw pv n : Nat} {Gs Gc Gw Gv : List Nat} (h : St M w0 w o ps pc pw pv n Gs Gc Gw Gv) :
    Calls Try.prog 11 #[.pointer (some ⟨pw, 0, none⟩)] w fun e w' => ∃ p' o', e = .returned (.pointer (some ⟨p', 0, none⟩)) ∧ St M w0 w' o' ps pc pw p' n Gs Gc Gw Gw ∧ ∀ k, k < w.heap.size → o k = 0 → o' k = 0 ∧ w'.heap[k]? = w.heap[k]? := by
  refine (refF_copy w _ pw n Gw h.r).mono ?_
  rintro e w' ⟨F', p', h1, h2, h3, h4⟩
  obtain ⟨o', t1, t2, t3, t4, t5, t6⟩ := turn (i := 4) (by decide) (KeptF.of_below h4) (fun k hk => .inr (h3 k hk)) (refF_lies.lt h2) h.base h.old
  exact ⟨p', o', h1, ⟨(Lies.at_iff (M := M) (hM.keep h.s (fun k (hk : o k = 1) => t5 k (by omega) (by omega))) fun k => (t2 1 (by decide) (by decide) k).symm), (Lies.at_iff (M := M) (hM.keep h.c (fun k (hk : o k = 2) => t5 k (by omega) (by omega))) fun k => (t2 2 (by decide) (by decide) k).symm), (Lies.at_iff (M := RefF) (refF_lies.keep h.r (fun k (hk : o k = 3) => t5 k (by omega) (by omega))) fun k => (t2 3 (by decide) (by decide) k).symm), Lies.at_iff (M := RefF) h2 fun k => (t1 k).symm, t3, t4⟩, t6⟩
/-- Four sets, made one behind another. -/
theorem st_first {M : Lies} {w0 w : World} {Fs Fc Fw Fv : Nat → Prop} {ps pc pw pv n : Nat} {Gs Gc Gw Gv : List Nat} (hM : LiesC M) (hs : M w Fs ps n Gs) (hc : M w Fc pc n Gc) (hr : RefF w Fw pw n Gw) (hv : RefF w Fv pv n Gv) (hold : Below w0.heap.size w0 w)
    (B1 B2 B3 : Nat) (s1 : ∀ k, Fs k → w0.heap.size ≤ k ∧ k < B1) (s2 : ∀ k, Fw k → B1 ≤ k ∧ k < B2) (s3 : ∀ k, Fc k → B2 ≤ k ∧ k < B3) (s4 : ∀ k, Fv k → B3 ≤ k) (b1 : w0.heap.size ≤ B1) (b2 : B1 ≤ B2) (b3 : B2 ≤ B3) : ∃ o, St M w0 w o ps pc pw pv n Gs Gc Gw Gv := by
  classical
  refine ⟨fun k => if Fs k then 1 else if Fc k then 2 else if Fw k then 3 else if Fv k then 4 else 0, Lies.at_iff (M := M) hs fun k => ?_, Lies.at_iff (M := M) hc fun k => ?_, Lies.at_iff (M := RefF) hr fun k => ?_, Lies.at_iff (M := RefF) hv fun k => ?_, fun k hk => ?_, hold⟩
  · by_cases q : Fs k
    · simp [q]
    · simp only [q, if_false, false_iff]
      split
      · omega
      · split
        · omega
        · split <;> omega
  · by_cases q : Fc k
    · have h1 : ¬ Fs k := fun r => by have := s1 k r; have := s3 k q; omega
      simp [q, h1]
    · simp only [q, if_false, false_iff]
      split
      · omega
      · split
        · omega
        · split <;> omega
  · by_cases q : Fw k
    · have h1 : ¬ Fs k := fun r => by have := s1 k r; have := s2 k q; omega
      have h2 : ¬ Fc k := fun r => by have := s3 k r; have := s2 k q; omega
      simp [q, h1, h2]
    · simp only [q, if_false, false_iff]
      split
      · omega
      · split
        · omega
        · split <;> omega
  · by_cases q : Fv k
    · have h1 : ¬ Fs k := fun r => by have := s1 k r; have := s4 k q; omega
      have h2 : ¬ Fc k := fun r => by have := s3 k r; have := s4 k q; omega
      have h3 : ¬ Fw k := fun r => by have := s2 k r; have := s4 k q; omega
      simp [q, h1, h2, h3]
    · simp only [q, if_false, false_iff]
      split
      · omega
      · split
        · omega
        · split <;> omega
  · by_cases q1 : Fs k
    · exact ⟨(s1 k q1).1, hM.lt hs k q1⟩
    · by_cases q2 : Fc k
      · exact ⟨by have := s3 k q2; omega, hM.lt hc k q2⟩
      · by_cases q3 : Fw k
        · exact ⟨by have := s2 k q3; omega, refF_lies.lt hr k q3⟩
        · by_cases q4 : Fv k
          · exact ⟨by have := s4 k q4; omega, refF_lies.lt hv k q4⟩
          · simp [q1, q2, q3, q4] at hk
end Go.Proofs.Ytoppgecajibelaa

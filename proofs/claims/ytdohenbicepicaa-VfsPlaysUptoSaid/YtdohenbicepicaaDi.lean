/-
  A step of the two disks: Calm, and a kind that is none.
-/
import Derived.Test.YtdohenbicepicaaDc
namespace Go.Proofs.Ytdohenbicepicaa
open Go.RowKit Go.Maps
set_option linter.unusedVariables false

theorem Pair.post {w w' : World} {p b : Nat} {D : Vf.Dk} {c : Nat} {F G : Nat → Prop} (h : Pair w' p b D c F G) (hk : KeptF (fun k => F k ∨ G k) w w') : PairPost w p b D c F G w' :=
  ⟨F, G, h, hk, fun k hk => hk.elim .inl (fun e => .inr (.inl e))⟩
theorem RA.calm {w w1 : World} {b : Nat} {D : Vf.Dk} {G : Nat → Prop} (h : RA w b D G) : ∃ v, w.cell? ⟨b, 5, none⟩ = some (.int .i64 v) ∧ w.frozen? ⟨b, 5, none⟩ = false ∧ G b ∧ RA (w.setCell ⟨b, 5, none⟩ (.int .i64 (-1))) b (Vf.calm D) G := by
  obtain ⟨vf, vn, vk, hA, h1, h2⟩ := h
  refine ⟨_, hA.row.cell 5, hA.row.frozen 5, h1 b (.inl rfl), vf, vn, vk, hA.turn (hA.row.set 5 _) (fun k hk => heap_other _ _ _ _ _ hk) rfl rfl rfl, h1, fun k hk => ?_⟩
  have := h2 k hk
  simpa [World.setCell] using this

set_option maxRecDepth 100000 in
set_option maxHeartbeats 4000000 in
theorem does_calm (w : World) (p b : Nat) (D : Vf.Dk) (c : Nat) (F G : Nat → Prop) (h : Pair w p b D c F G) (n : Int) (P Q : ByteArray) :
    Calls Try.prog 11 #[.pointer (some ⟨p, 0, none⟩), .pointer (some ⟨b, 0, none⟩), stepV 8 n P Q] w (DoesPost w p b c F G) := by
  obtain ⟨s0, s1, s2, s3⟩ := step_cells w 8 n P Q
  have hpa : PA (w.alloc (stepO 8 n P Q)) p D F := h.pa.keep (fun k hk => heap_alloc_old w _ (h.pa.lt k hk)) (by simp)
  have hra : RA (w.alloc (stepO 8 n P Q)) b D G := h.ra.keep (fun k hk => heap_alloc_old w _ (h.ra.lt k hk)) (by simp)
  have hK0 : Hid (∀ k, k < w.heap.size → (w.alloc (stepO 8 n P Q)).heap[k]? = w.heap[k]?) := fun k hk => heap_alloc_old w _ hk
  have hSz : Hid ((w.alloc (stepO 8 n P Q)).heap.size = w.heap.size + 1 ∧ (w.alloc (stepO 8 n P Q)).os = w.os ∧ (w.alloc (stepO 8 n P Q)).tape = w.tape ∧ (w.alloc (stepO 8 n P Q)).output = w.output) := ⟨by simp, rfl, rfl, rfl⟩
  have HH := Lib.hid h
  have HA := Lib.hid hpa
  have HR := Lib.hid hra
  clear h hpa hra
  unfold stepV
  go_enter Try.func11, Try.ntmps11
  have hw : w.alloc (.cells #[.int .i64 8, .string P, .string Q, .int .i64 n] 29) = w.alloc (stepO 8 n P Q) := rfl
  generalize w.alloc (stepO 8 n P Q) = wb at *
  go_wp2_with fail
  refine (calmP_any wb p D F HA.out).mono ?_
  rintro e1 w1 ⟨rfl, hA1, hK1, hs1⟩
  have hR1 : RA w1 b D G := HR.out.keep (fun k hk => hK1.block k (HR.out.lt k hk) (fun e => HH.out.ap k e hk)) (by omega)
  obtain ⟨v5, c5, f5, hGb, hR2⟩ := hR1.calm (w1 := w1)
  have HF : Hid (PairPost w p b (Vf.calm D) (c + 1) F G (w1.setCell ⟨b, 5, none⟩ (.int .i64 (-1)))) := by
    refine Pair.post ⟨hA1.keep (fun k hk => heap_other _ _ _ _ _ (fun e => HH.out.ap k hk (e ▸ hGb))) (by simp [World.setCell]), hR2, (HH.out.ok.calm).mono (Nat.le_succ c), HH.out.ap⟩ ?_
    obtain ⟨z1, z2, z3, z4⟩ := hSz.out
    have hK2 : KeptF (fun k => F k ∨ G k) wb w1 := hK1.mono fun k _ hk => .inl hk
    have hK3 := hK2.set b 5 (.inr hGb) (.int .i64 (-1))
    exact ⟨hK3.os.trans z2, hK3.tape.trans z3, hK3.output.trans z4, by have := hK3.size; omega, fun k hk1 hk2 => (hK3.block k (by omega) hk2).trans (hK0.out k hk1)⟩
  clear hA1 hK1 hR1 hR2 hGb hs1
  go_wp2_with fail
  go_ret
  exact ⟨rfl, _, HF.out⟩

set_option maxRecDepth 100000 in
set_option maxHeartbeats 4000000 in
theorem does_none (w : World) (p b : Nat) (D : Vf.Dk) (c : Nat) (F G : Nat → Prop) (h : Pair w p b D c F G) (kind n : Int) (P Q : ByteArray) (hk : kind < 1 ∨ 9 < kind) :
    Calls Try.prog 11 #[.pointer (some ⟨p, 0, none⟩), .pointer (some ⟨b, 0, none⟩), stepV kind n P Q] w (DoesPost w p b c F G) := by
  obtain ⟨s0, s1, s2, s3⟩ := step_cells w kind n P Q
  have HF : Hid (PairPost w p b D (c + 1) F G (w.alloc (stepO kind n P Q))) :=
    Pair.post ⟨h.pa.keep (fun k hk => heap_alloc_old w _ (h.pa.lt k hk)) (by simp), h.ra.keep (fun k hk => heap_alloc_old w _ (h.ra.lt k hk)) (by simp), h.ok.mono (Nat.le_succ c), h.ap⟩ ⟨rfl, rfl, rfl, by simp, fun k hk _ => heap_alloc_old w _ hk⟩
  have k1 : (kind == 1) = false := by simp; omega
  have k2 : (kind == 2) = false := by simp; omega
  have k3 : (kind == 3) = false := by simp; omega
  have k4 : (kind == 4) = false := by simp; omega
  have k5 : (kind == 5) = false := by simp; omega
  have k6 : (kind == 6) = false := by simp; omega
  have k7 : (kind == 7) = false := by simp; omega
  have k8 : (kind == 8) = false := by simp; omega
  have k9 : (kind == 9) = false := by simp; omega
  clear h hk
  unfold stepV
  go_enter Try.func11, Try.ntmps11
  have hw : w.alloc (.cells #[.int .i64 kind, .string P, .string Q, .int .i64 n] 29) = w.alloc (stepO kind n P Q) := rfl
  generalize w.alloc (stepO kind n P Q) = wb at *
  go_wp2_with fail
  go_ret
  exact ⟨rfl, _, HF.out⟩
end Go.Proofs.Ytdohenbicepicaa

/-
  What the given disk's Remove, Rename and SyncDir do.
-/
import Derived.Test.YtdohenbicepicaaVd
namespace Go.Proofs.Ytdohenbicepicaa
open Go.RowKit

/-- A disk's call has answered e, and left the disk so. -/
def OpPost (w : World) (b : Nat) (vf vn vk : Value) (r : Int × Vf.Dk) (e' : Ending) (w' : World) : Prop :=
  e' = .returned (.int .i64 r.1) ∧ ∃ vf' vn' vk', RefA w' b vf' vn' vk' r.2 ∧ KeptF (Foot b vf vn vk) w w' ∧ (∀ k, k < w.heap.size → Foot b vf' vn' vk' k → Foot b vf vn vk k)
theorem OpPost.same {w w' : World} {b : Nat} {vf vn vk : Value} {e : Int} {D : Vf.Dk} (h : RefA w' b vf vn vk D) (hk : KeptF (fun k => k = b) w w') : OpPost w b vf vn vk (e, D) (.returned (.int .i64 e)) w' :=
  ⟨rfl, vf, vn, vk, h, hk.mono fun _ _ e => .inl e, fun _ _ h => h⟩
theorem kept_refl (w : World) (b : Nat) : KeptF (fun k => k = b) w w := KeptF.refl _ _
theorem RefA.names_to {w1 w2 : World} {b : Nat} {vf vn vk vn' : Value} {D : Vf.Dk} {l : List Vf.Lk} (h : RefA w1 b vf vn vk D) (hb : Below w1.heap.size w1 w2) (ho : OwnK w2 w1.heap.size vn' l) : RefA (w2.setCell ⟨b, 1, none⟩ vn') b vf vn' vk { D with names := l } := by
  have h2 := h.keep (w' := w2) fun k hk => hb.block k (h.lt k hk)
  have hbl := h.row.lt
  have hne : ∀ k, vn'.ownBlock = some k → w1.heap.size ≤ k := fun k hk => (World.ownsRow.lt ho k hk).1
  refine ⟨h2.row.set 1 vn', ownsRow_keep h2.files fun k hk => heap_other _ _ _ _ _ (fun e => h.fb (e ▸ hk)), ownsRow_keep (ownsRow_base ho (Nat.zero_le _)) fun k hk => heap_other _ _ _ _ _ (fun e => by have := hne k hk; omega), ownsRow_keep h2.kept fun k hk => heap_other _ _ _ _ _ (fun e => h.kb (e ▸ hk)), h.fb, fun e => by have := hne b e; omega, h.kb, fun k hk => ⟨fun e => ?_, (h.apart k hk).2⟩⟩
  have h3 := hne k e
  have h4 := h.lt k (.inr (.inl hk))
  omega
theorem RefA.kept_to {w1 w2 : World} {b : Nat} {vf vn vk vk' : Value} {D : Vf.Dk} {l : List Vf.Lk} (h : RefA w1 b vf vn vk D) (hb : Below w1.heap.size w1 w2) (ho : OwnK w2 w1.heap.size vk' l) : RefA (w2.setCell ⟨b, 2, none⟩ vk') b vf vn vk' { D with kept := l } := by
  have h2 := h.keep (w' := w2) fun k hk => hb.block k (h.lt k hk)
  have hbl := h.row.lt
  have hne : ∀ k, vk'.ownBlock = some k → w1.heap.size ≤ k := fun k hk => (World.ownsRow.lt ho k hk).1
  refine ⟨h2.row.set 2 vk', ownsRow_keep h2.files fun k hk => heap_other _ _ _ _ _ (fun e => h.fb (e ▸ hk)), ownsRow_keep h2.names fun k hk => heap_other _ _ _ _ _ (fun e => h.nb (e ▸ hk)), ownsRow_keep (ownsRow_base ho (Nat.zero_le _)) fun k hk => heap_other _ _ _ _ _ (fun e => by have := hne k hk; omega), h.fb, h.nb, fun e => by have := hne b e; omega, fun k hk => ⟨(h.apart k hk).1, fun e => ?_⟩⟩
  have h3 := hne k e
  have h4 := h.lt k (.inr (.inl hk))
  omega
theorem kept_step {w w1 w2 : World} {b i : Nat} {v : Value} (h : KeptF (fun k => k = b) w w1) (hb : Below w1.heap.size w1 w2) : KeptF (fun k => k = b) w (w2.setCell ⟨b, i, none⟩ v) :=
  (h.trans (KeptF.of_below hb)).set b i rfl v

theorem OwnK.form {w : World} {B : Nat} {v : Value} {l : List Vf.Lk} (h : OwnK w B v l) : ∃ a cap, v = .slice a l.length cap := by
  obtain ⟨a, cap, h1, _⟩ := h.lks
  exact ⟨a, cap, h1⟩
theorem link_zero (w : World) (v : Value) (l : List Vf.Lk) (s : ByteArray) (hv : LkS w v l) (hn : l.length ≤ 1073741824) :
    Calls Try.prog 59 #[v, .string s, .int .i64 0] w fun e' w' => ∃ v', e' = .returned v' ∧ OwnK w' w.heap.size v' (Vf.link l s 0) ∧ Below w.heap.size w w' := link_any w v l s 0 hv hn

set_option maxRecDepth 100000 in
set_option maxHeartbeats 2000000 in
theorem removeR_any (w : World) (b : Nat) (vf vn vk : Value) (D : Vf.Dk) (s : ByteArray) (h : RefA w b vf vn vk D) (hs : D.steps ≤ 4611686018427387904) (ha : -1 ≤ D.armed ∧ D.armed ≤ 9223372036854775807) (hn : D.names.length ≤ 1073741824) :
    Calls Try.prog 31 #[.pointer (some ⟨b, 0, none⟩), .string s] w (OpPost w b vf vn vk (Vf.remove D s)) := by
  have hN := Lib.hid (nameR_any w s)
  have hF := Lib.hid (firstR_any w b vf vn vk D (Vf.okN s) h)
  have hFi := Lib.hid (find_any w vn D.names s (OwnK.lks h.names))
  have hD := Lib.hid (doneR_any w b vf vn vk D h hs ha)
  have c1 : w.cell? ⟨b, 1, none⟩ = some vn := h.row.cell 1
  have H := Lib.hid h
  obtain ⟨R, hR⟩ : ∃ R, R = Vf.remove D s := ⟨_, rfl⟩
  have HR := Lib.hid hR
  rw [← hR]
  unfold Vf.remove at hR
  clear h
  by_cases h1 : Vf.first D (Vf.okN s) ≠ 0
  · rw [if_pos h1] at hR
    have e1 : (Vf.first D (Vf.okN s) != 0) = true := by simpa using h1
    subst hR
    clear h1 HR
    generalize Vf.first D (Vf.okN s) = fe at *
    generalize Vf.okN s = ok at *
    go_enter Try.func31, Try.ntmps31
    go_wp2_with (first | (go_at_call 38; refine hN.out.mono ?_; rintro e1 w1 ⟨rfl, rfl⟩) | (go_at_call 57; refine hF.out.mono ?_; rintro e1 w1 ⟨rfl, rfl⟩))
    go_ret
    exact OpPost.same H.out (kept_refl _ _)
  · rw [if_neg h1] at hR
    have h1' : Vf.first D (Vf.okN s) = 0 := by simpa using h1
    rw [h1'] at hF
    clear h1 h1'
    by_cases h2 : Vf.find D.names s = 0
    · rw [if_pos h2] at hR
      rw [h2] at hFi
      subst hR
      clear h2 HR
      generalize Vf.okN s = ok at *
      go_enter Try.func31, Try.ntmps31
      go_wp2_with (first | (go_at_call 38; refine hN.out.mono ?_; rintro e1 w1 ⟨rfl, rfl⟩) | (go_at_call 57; refine hF.out.mono ?_; rintro e1 w1 ⟨rfl, rfl⟩) | (go_at_call 61; refine hFi.out.mono ?_; rintro e1 w1 ⟨rfl, rfl⟩))
      go_ret
      exact OpPost.same H.out (kept_refl _ _)
    · rw [if_neg h2] at hR
      have e2 : ((Vf.find D.names s : Int) == 0) = false := by simp; omega
      clear h2
      generalize Vf.find D.names s = fd at *
      by_cases h3 : (Vf.done D).1 ≠ 0
      · rw [if_pos h3] at hR
        have e3 : ((Vf.done D).1 == 0) = false := by simpa using h3
        subst hR
        clear h3 HR
        generalize Vf.done D = dd at *
        obtain ⟨de, D1⟩ := dd
        simp only at e3 hD
        generalize Vf.okN s = ok at *
        go_enter Try.func31, Try.ntmps31
        go_wp2_with (first | (go_at_call 38; refine hN.out.mono ?_; rintro e1 w1 ⟨rfl, rfl⟩) | (go_at_call 57; refine hF.out.mono ?_; rintro e1 w1 ⟨rfl, rfl⟩) | (go_at_call 61; refine hFi.out.mono ?_; rintro e1 w1 ⟨rfl, rfl⟩) | (go_at_call 58; refine hD.out.mono ?_; rintro e1 w1 ⟨rfl, hA1, hK1⟩; have HA1 := Lib.hid hA1; have HK1 := Lib.hid hK1; clear hA1 hK1))
        go_ret
        exact OpPost.same HA1.out HK1.out
      · rw [if_neg h3] at hR
        have h3' : (Vf.done D).1 = 0 := by simpa using h3
        rw [h3'] at hD
        have hnm : (Vf.done D).2.names = D.names := by unfold Vf.done; split <;> rfl
        subst hR
        clear h3 h3' HR
        generalize (Vf.done D).2 = D1 at *
        rw [← hnm] at hn ⊢
        have HNM := Lib.hid hnm
        clear hnm
        generalize Vf.okN s = ok at *
        go_enter Try.func31, Try.ntmps31
        go_wp2_with (first | (go_at_call 38; refine hN.out.mono ?_; rintro e1 w1 ⟨rfl, rfl⟩) | (go_at_call 57; refine hF.out.mono ?_; rintro e1 w1 ⟨rfl, rfl⟩) | (go_at_call 61; refine hFi.out.mono ?_; rintro e1 w1 ⟨rfl, rfl⟩) | (go_at_call 58; refine hD.out.mono ?_; rintro e1 w1 ⟨rfl, hA1, hK1⟩; have k1 : w1.cell? ⟨b, 1, none⟩ = some vn := hA1.row.cell 1; have hL := Lib.hid (link_zero w1 vn D1.names s (OwnK.lks hA1.names) hn); have HA1 := Lib.hid hA1; have HK1 := Lib.hid hK1; clear hA1 hK1) | (go_at_call 59; refine hL.out.mono ?_; rintro e1 w2 ⟨v2, rfl, ho2, hb2⟩; obtain ⟨a2, q2, hv2⟩ := ho2.form; generalize (Vf.link D1.names s 0).length = ln2 at hv2; subst hv2; have k2 : w2.cell? ⟨b, 1, none⟩ = some vn := (hb2.cell (p := ⟨b, 1, none⟩) HA1.out.row.lt).trans k1; have f2 : w2.frozen? ⟨b, 1, none⟩ = false := (hb2.frozen (p := ⟨b, 1, none⟩) HA1.out.row.lt).trans (HA1.out.row.frozen 1); have HA2 := Lib.hid (HA1.out.names_to hb2 ho2); have HK2 : Hid (KeptF (fun k => k = b) w (w2.setCell ⟨b, 1, none⟩ (.slice a2 ln2 q2))) := kept_step HK1.out hb2; have HSZ : Hid (∀ k, (Value.slice a2 ln2 q2).ownBlock = some k → w.heap.size ≤ k) := (fun k hk => Nat.le_trans HK1.out.size (World.ownsRow.lt ho2 k hk).1); clear ho2 hb2))
        go_ret
        exact ⟨rfl, vf, _, vk, HA2.out, HK2.out.mono fun _ _ e => .inl e, fun k hk h => by
          rcases h with h | h | h | h
          · exact .inl h
          · exact .inr (.inl h)
          · have := HSZ.out k h; omega
          · exact .inr (.inr (.inr h))⟩
end Go.Proofs.Ytdohenbicepicaa

/-
  What the given disk's Create does.
-/
import Derived.Test.YtdohenbicepicaaVq
import Derived.Deep.RegionLaw
import Derived.Deep.AppendLies
namespace Go.Proofs.Ytdohenbicepicaa
open Go.RowKit

theorem new_file (w : World) (n : Int) (d : ByteArray) (s : Int) : ∀ j u, [Value.int .i64 n, .string d, .int .i64 s][j]? = some u → (w.alloc (.cells #[.int .i64 n, .string d, .int .i64 s] 86)).cell? ((⟨w.heap.size, 0, none⟩ : Addr).add j) = some u := by
  intro j u hj
  match j, hj with
  | 0, hj => simp at hj; subst hj; simp [Addr.add]
  | 1, hj => simp at hj; subst hj; simp [Addr.add]
  | 2, hj => simp at hj; subst hj; simp [Addr.add]
theorem one_file (n : Int) (d : ByteArray) (s : Int) : ∀ u ∈ [Value.int .i64 n, .string d, .int .i64 s], u.oneCell' = true := by
  intro u hu
  simp only [List.mem_cons, List.mem_nil_iff, or_false] at hu
  rcases hu with rfl | rfl | rfl <;> rfl
/-- What the loads of an append onto the files read. -/
def SC (b : Nat) (vf : Value) (x : Int) (w : World) : Prop := w.cell? ⟨b, 0, none⟩ = some vf ∧ w.cell? ⟨b, 3, none⟩ = some (.int .i64 x) ∧ w.frozen? ⟨b, 0, none⟩ = false ∧ b < w.heap.size
theorem SC.block {b : Nat} {vf : Value} {x : Int} {w w' : World} (h : SC b vf x w) (e : w'.heap[b]? = w.heap[b]?) (hs : w.heap.size ≤ w'.heap.size) : SC b vf x w' :=
  ⟨(World.cell?_of_block (a := ⟨b, 0, none⟩) e).trans h.1, (World.cell?_of_block (a := ⟨b, 3, none⟩) e).trans h.2.1, (World.frozen?_of_block (a := ⟨b, 0, none⟩) e).trans h.2.2.1, Nat.lt_of_lt_of_le h.2.2.2 hs⟩
theorem SC.alloc {b : Nat} {vf : Value} {x : Int} {w : World} (h : SC b vf x w) (o : Obj) : SC b vf x (w.alloc o) := h.block (heap_alloc_old w o h.2.2.2) (by simp)
theorem SC.grow {b : Nat} {vf : Value} {x : Int} {w w' : World} (h : SC b vf x w) (hg : w.grownBy w' vf.ownBlock) (hne : vf.ownBlock ≠ some b) : SC b vf x w' := h.block (hg.block b h.2.2.2 (fun e => hne e.symm)) hg.size
theorem flsV_snoc (l : List Vf.Fl) (x : Vf.Fl) : flsV l ++ [.int .i64 (x.n : Int), .string x.data, .int .i64 (x.sure : Int)] = flsV (l ++ [x]) := by simp [flsV]
/-- The files have grown by one. -/
theorem RefA.files_to {w2 w2' w3 : World} {b : Nat} {vf vn vk vf' : Value} {D : Vf.Dk} {x : Vf.Fl} {g : Nat} (h : RefA w2 b vf vn vk D) (hb : Below w2.heap.size w2 w2') (hg : w2'.grownBy w3 vf.ownBlock)
    (ho : w3.ownsRow 0 86 3 vf' (D.files.length + 1) (flsV D.files ++ [.int .i64 (x.n : Int), .string x.data, .int .i64 (x.sure : Int)])) (hv : vf'.ownBlock = some g) (hat : vf.ownBlock = some g ∨ w2.heap.size ≤ g) :
    RefA (w3.setCell ⟨b, 0, none⟩ vf') b vf' vn vk { D with files := D.files ++ [x] } := by
  have hbl := h.row.lt
  have hk : ∀ k, k < w2.heap.size → vf.ownBlock ≠ some k → w3.heap[k]? = w2.heap[k]? := fun k h1 h2 => (hg.block k (Nat.lt_of_lt_of_le h1 hb.size) (fun e => h2 e.symm)).trans (hb.block k h1)
  have hnb : vf'.ownBlock ≠ some b := by
    rw [hv]
    intro e
    obtain rfl : g = b := by simpa using e
    rcases hat with h1 | h1
    · exact h.fb h1
    · omega
  have hrow : RowC w3 b (dkC vf vn vk D) := (hk b hbl h.fb).trans h.row
  refine ⟨hrow.set 0 vf', ?_, ownsRow_keep h.names fun k hn => ?_, ownsRow_keep h.kept fun k hn => ?_, hnb, h.nb, h.kb, fun k hf => ?_⟩
  · have e : w3.ownsRow 0 86 3 vf' (D.files ++ [x]).length (flsV (D.files ++ [x])) := by
      rw [flsV_snoc] at ho
      simpa using ho
    exact ownsRow_keep e fun k hf => heap_other _ _ _ _ _ (fun e => hnb (e ▸ hf))
  · have hkb : k ≠ b := fun e => h.nb (e ▸ hn)
    rw [heap_other _ _ _ _ _ hkb]
    exact hk k (World.ownsRow.lt h.names k hn).2 (fun e => (h.apart k e).1 hn)
  · have hkb : k ≠ b := fun e => h.kb (e ▸ hn)
    rw [heap_other _ _ _ _ _ hkb]
    exact hk k (World.ownsRow.lt h.kept k hn).2 (fun e => (h.apart k e).2 hn)
  · rw [hv] at hf
    obtain rfl : g = k := by simpa using hf
    rcases hat with h1 | h1
    · exact h.apart g h1
    · exact ⟨fun e => by have := (World.ownsRow.lt h.names g e).2; omega, fun e => by have := (World.ownsRow.lt h.kept g e).2; omega⟩

set_option maxRecDepth 100000 in
set_option maxHeartbeats 4000000 in
theorem createR_any (w : World) (b : Nat) (vf vn vk : Value) (D : Vf.Dk) (s : ByteArray) (h : RefA w b vf vn vk D) (hs : D.steps ≤ 4611686018427387904) (ha : -1 ≤ D.armed ∧ D.armed ≤ 9223372036854775807) (hn : D.names.length ≤ 1073741824) (hf : D.files.length ≤ 1073741824) (hla : D.last ≤ 1073741824) :
    Calls Try.prog 27 #[.pointer (some ⟨b, 0, none⟩), .string s] w (OpPost w b vf vn vk (Vf.create D s)) := by
  obtain ⟨ii, hi, hz0, hz1, hz2⟩ := info_parts Try.infoF
  have hN : Hid (∀ (w : World) (s : ByteArray), _) := nameR_any
  have hF := Lib.hid (firstR_any w b vf vn vk D (Vf.okN s) h)
  have hD := Lib.hid (doneR_any w b vf vn vk D h hs ha)
  have H := Lib.hid h
  obtain ⟨R, hR⟩ : ∃ R, R = Vf.create D s := ⟨_, rfl⟩
  rw [← hR]
  unfold Vf.create at hR
  clear h
  by_cases h1 : Vf.first D (Vf.okN s) ≠ 0
  · rw [if_pos h1] at hR
    have e1 : (Vf.first D (Vf.okN s) == 0) = false := by simpa using h1
    subst hR
    clear h1
    generalize Vf.first D (Vf.okN s) = fe at *
    go_enter Try.func27, Try.ntmps27
    go_wp2_with (first | (go_at_call 38; refine (hN.out _ _).mono ?_; rintro e1 w1 ⟨rfl, rfl⟩) | (go_at_call 57; refine hF.out.mono ?_; rintro e1 w1 ⟨rfl, rfl⟩))
    go_ret
    exact OpPost.same H.out (kept_refl _ _)
  · rw [if_neg h1] at hR
    have h1' : Vf.first D (Vf.okN s) = 0 := by simpa using h1
    rw [h1'] at hF
    clear h1 h1'
    by_cases h3 : (Vf.done D).1 ≠ 0
    · rw [if_pos h3] at hR
      have e3 : ((Vf.done D).1 == 0) = false := by simpa using h3
      subst hR
      clear h3
      generalize Vf.done D = dd at *
      obtain ⟨de, D1⟩ := dd
      simp only at e3 hD
      go_enter Try.func27, Try.ntmps27
      go_wp2_with (first | (go_at_call 38; refine (hN.out _ _).mono ?_; rintro e1 w1 ⟨rfl, rfl⟩) | (go_at_call 57; refine hF.out.mono ?_; rintro e1 w1 ⟨rfl, rfl⟩) | (go_at_call 58; refine hD.out.mono ?_; rintro e1 w1 ⟨rfl, hA1, hK1⟩; have HA1 := Lib.hid hA1; have HK1 := Lib.hid hK1; clear hA1 hK1))
      go_ret
      exact OpPost.same HA1.out HK1.out
    · rw [if_neg h3] at hR
      have h3' : (Vf.done D).1 = 0 := by simpa using h3
      rw [h3'] at hD
      have hnm : (Vf.done D).2.names = D.names := by unfold Vf.done; split <;> rfl
      have hfl : (Vf.done D).2.files = D.files := by unfold Vf.done; split <;> rfl
      have hlst : (Vf.done D).2.last = D.last := by unfold Vf.done; split <;> rfl
      subst hR
      clear h3 h3'
      generalize (Vf.done D).2 = D1 at *
      rw [← hnm] at hn ⊢
      rw [← hfl] at hf ⊢
      rw [← hlst] at hla ⊢
      clear hnm hfl hlst
      go_enter Try.func27, Try.ntmps27
      go_wp2_with (first | (go_at_call 38; refine (hN.out _ _).mono ?_; rintro e1 w1 ⟨rfl, rfl⟩) | (go_at_call 57; refine hF.out.mono ?_; rintro e1 w1 ⟨rfl, rfl⟩) | (go_at_call 58; refine hD.out.mono ?_; rintro e1 w1 ⟨rfl, hA1, hK1⟩; have k3 : w1.cell? ⟨b, 3, none⟩ = some (.int .i64 (D1.last : Int)) := hA1.row.cell 3; have f3 : w1.frozen? ⟨b, 3, none⟩ = false := hA1.row.frozen 3; have HA1 := Lib.hid hA1; have HK1 := Lib.hid hK1; clear hA1 hK1))
      -- the number has been counted
      have hA2 : RefA (w1.setCell ⟨b, 3, none⟩ (.int .i64 ((D1.last : Int) + 1))) b vf vn vk { D1 with last := D1.last + 1 } := HA1.out.turn (HA1.out.row.set 3 _) (fun k hk => heap_other _ _ _ _ _ hk) rfl rfl rfl
      have hK2 : Hid (KeptF (fun k => k = b) w (w1.setCell ⟨b, 3, none⟩ (.int .i64 ((D1.last : Int) + 1)))) := HK1.out.set b 3 rfl _
      have hS : SC b vf ((D1.last : Int) + 1) (w1.setCell ⟨b, 3, none⟩ (.int .i64 ((D1.last : Int) + 1))) := ⟨hA2.row.cell 0, hA2.row.cell 3, hA2.row.frozen 0, hA2.row.lt⟩
      have HS := Lib.hid hS
      have hown : Hid ((w1.setCell ⟨b, 3, none⟩ (.int .i64 ((D1.last : Int) + 1))).drew.ownsRow 0 86 3 vf D1.files.length (flsV D1.files)) := hA2.files
      have HA2 := Lib.hid hA2
      have hfb := HA2.out.fb
      clear hA2 hS k3 f3
      generalize w1.setCell ⟨b, 3, none⟩ (.int .i64 ((D1.last : Int) + 1)) = w2 at *
      have c0 : w2.cell? ⟨b, 0, none⟩ = some vf := HS.out.1
      have c3 : w2.cell? ⟨b, 3, none⟩ = some (.int .i64 ((D1.last : Int) + 1)) := HS.out.2.1
      have d0 : w2.drew.cell? ⟨b, 0, none⟩ = some vf := HS.out.1
      have d3 : w2.drew.cell? ⟨b, 3, none⟩ = some (.int .i64 ((D1.last : Int) + 1)) := HS.out.2.1
      have a0 : (w2.alloc (.cells #[.int .i64 ((D1.last : Int) + 1), .string ⟨#[]⟩, .int .i64 0] 86)).drew.cell? ⟨b, 0, none⟩ = some vf := (SC.alloc (w := w2.drew) HS.out _).1
      have a1 : (w2.alloc (.cells #[.int .i64 ((D1.last : Int) + 1), .string ⟨#[]⟩, .int .i64 0] 86)).cell? ⟨b, 0, none⟩ = some vf := (SC.alloc (w := w2) HS.out _).1
      go_region_law ((refine step_append_lies _ (by rfl) _ _ _ (by rfl) 0 86 ii _ 3 32 Try.underlying32 hi hz0 hz1 hz2 rfl (by decide) vf D1.files.length (flsV D1.files) (by simp [Act.eval]) (hown.out.alloc _) ⟨w2.heap.size, 0, none⟩ 1 1 [.int .i64 ((D1.last : Int) + 1), .string ByteArray.empty, .int .i64 0] (by simp [Act.eval]) rfl (new_file _ _ _ _) (one_file _ _ _) (by omega) (by unfold maxLen; omega) (by omega) (Nat.zero_le _) (w2.heap.size + 1) (by simp) ?_; intro g cap w3 hown3 hgrow hat hlt; have hS3 := SC.grow (SC.alloc (w := w2.drew) HS.out _) hgrow hfb; have k0 : w3.cell? ⟨b, 0, none⟩ = some vf := hS3.1; have f0 : w3.frozen? ⟨b, 0, none⟩ = false := hS3.2.2.1; have HS3 := Lib.hid hS3; clear hS3))
      all_goals
        have hb22 : Below w2.heap.size w2 (w2.drew.alloc (.cells #[.int .i64 ((D1.last : Int) + 1), .string ⟨#[]⟩, .int .i64 0] 86)) := ((Below.refl _ _).drew).alloc (Nat.le_refl _) _
        have hA4 := HA2.out.files_to (x := ⟨D1.last + 1, ByteArray.empty, 0⟩) (g := g) hb22 hgrow (by simpa using hown3) rfl (hat.imp id (fun h => by omega))
        have hK4 : KeptF (fun k => k = b ∨ vf.ownBlock = some k) w (w3.setCell ⟨b, 0, none⟩ (.slice (some ⟨g, 0, none⟩) (D1.files.length + 1) cap)) := by
          have h1 : KeptF (fun k => k = b ∨ vf.ownBlock = some k) w2 w3 := ⟨hgrow.os.trans hb22.os, hgrow.tape.trans hb22.tape, hgrow.output.trans hb22.output, Nat.le_trans hb22.size hgrow.size, fun k hk hf => (hgrow.block k (Nat.lt_of_lt_of_le hk hb22.size) (fun e => hf (.inr e.symm))).trans (hb22.block k hk)⟩
          exact ((hK2.out.mono fun _ _ e => .inl e).trans h1).set b 0 (.inl rfl) _
        have hG : g = g ∧ (vf.ownBlock = some g ∨ w.heap.size ≤ g) := ⟨rfl, hat.imp id (fun h => by have := hK2.out.size; omega)⟩
        clear hown3 hgrow hb22 hat k0 f0 HS3 a0 a1 d0 d3 c0 c3 hown hlt
        have k1 : (w3.setCell ⟨b, 0, none⟩ (.slice (some ⟨g, 0, none⟩) (D1.files.length + 1) cap)).drew.cell? ⟨b, 1, none⟩ = some vn := hA4.row.cell 1
        have k3 : (w3.setCell ⟨b, 0, none⟩ (.slice (some ⟨g, 0, none⟩) (D1.files.length + 1) cap)).drew.cell? ⟨b, 3, none⟩ = some (.int .i64 ((D1.last : Int) + 1)) := hA4.row.cell 3
        have hL : Hid (Calls Try.prog 59 #[vn, .string s, .int .i64 ((D1.last : Int) + 1)] (w3.setCell ⟨b, 0, none⟩ (.slice (some ⟨g, 0, none⟩) (D1.files.length + 1) cap)).drew _) := link_any (w3.setCell ⟨b, 0, none⟩ (.slice (some ⟨g, 0, none⟩) (D1.files.length + 1) cap)).drew vn D1.names s (D1.last + 1) (OwnK.lks hA4.names) hn
        have HA4 := Lib.hid (hA4.keep (w' := (w3.setCell ⟨b, 0, none⟩ (.slice (some ⟨g, 0, none⟩) (D1.files.length + 1) cap)).drew) (fun _ _ => rfl))
        have HK4 := Lib.hid hK4.drew
        clear hA4 hK4
        go_wp2_with fail
        generalize w3.setCell ⟨b, 0, none⟩ (.slice (some ⟨g, 0, none⟩) (D1.files.length + 1) cap) = w4 at *
        go_region_with (go_at_call 59; refine hL.out.mono ?_; rintro e1 w5 ⟨v5, rfl, ho5, hb5⟩; obtain ⟨a5, q5, hv5⟩ := ho5.form; generalize (Vf.link D1.names s (D1.last + 1)).length = ln5 at hv5; subst hv5; have k5 : w5.cell? ⟨b, 1, none⟩ = some vn := (hb5.cell (p := ⟨b, 1, none⟩) HA4.out.row.lt).trans k1; have f5 : w5.frozen? ⟨b, 1, none⟩ = false := (hb5.frozen (p := ⟨b, 1, none⟩) HA4.out.row.lt).trans (HA4.out.row.frozen 1); have HO5 := Lib.hid (And.intro ho5 hb5); clear ho5 hb5)
        all_goals
          have HA5 := HA4.out.names_to HO5.out.2 HO5.out.1
          have HK5 := (HK4.out.trans (KeptF.of_below HO5.out.2)).set b 1 (.inl rfl) (.slice a5 ln5 q5)
          have HSZ : ∀ k, (Value.slice a5 ln5 q5).ownBlock = some k → w.heap.size ≤ k := fun k hk => Nat.le_trans HK4.out.size (World.ownsRow.lt HO5.out.1 k hk).1
          have HF := Lib.hid (And.intro HA5 (And.intro HK5 HSZ))
          clear HA5 HK5 HSZ
          go_wp2_with fail
          go_ret
          refine ⟨rfl, _, _, vk, HF.out.1.keep (fun _ _ => rfl), ?_, ?_⟩
          · exact (HF.out.2.1.mono fun k _ e => e.elim .inl fun e => .inr (.inl e))
          · intro k hk h
            rcases h with h | h | h | h
            · exact .inl h
            · obtain rfl : g = k := by simpa [Value.ownBlock] using h
              rcases hG.2 with h1 | h1
              · exact .inr (.inl h1)
              · omega
            · have := HF.out.2.2 k h
              omega
            · exact .inr (.inr (.inr h))
end Go.Proofs.Ytdohenbicepicaa

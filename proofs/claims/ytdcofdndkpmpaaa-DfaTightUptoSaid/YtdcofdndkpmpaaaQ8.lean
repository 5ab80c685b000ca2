/-
  Lemmas on automata, the program's calls and the given ones, put together of 6 texts (part 8).
-/
import Derived.Test.YtdcofdndkpmpaaaQ7
import Derived.Test.YtdcofdndkpmpaaaQ3
import Derived.ChangeKeysEq
import Derived.Deep.DeepCutAuto
import Derived.Deep.RegionHeld3
import Derived.Deep.RegionWith
import Derived.SizedLaws
/-
  DfaTight: what is written into an answer's lists stays off the two others.
-/
namespace Go.Proofs.Ytdcofdndkpmpaaa
open Go.RowKit
namespace Au
theorem tightL_row {d : List Lo} {most : Int} (hm : most ≤ 20000) : ∀ i (h : i < (tightL d most).length), (tightL d most)[i].arcs.length ≤ 256 := by
  by_cases hmay : may d = true
  · obtain ⟨o1, o2⟩ := tight_outs (d := d) (most := most) hmay
    cases htg : tight d most with
    | none => rw [(o1 htg).2]; intro i h; simp at h
    | some r =>
      rw [(o2 r htg).2]
      intro i h
      have := row_few ((tight_fits ((may_true d).1 hmay) hm htg).row i h)
      omega
  · rw [(tight_out_bad (most := most) hmay).2]; intro i h; simp at h
end Au
/-- Lists that may be written into: their slices lie in a block that stays, each in a block of its own; what lies from A on stays. -/
structure TH (w wd W : World) (B A : Nat) (a : Option Addr) (vs : List Value) (L : List Au.St) (i : Nat) : Prop where
  len : vs.length = L.length
  low : w.heap.size ≤ B
  below : Below w.heap.size w W
  size : wd.heap.size ≤ W.heap.size
  top : A ≤ wd.heap.size
  base : B ≤ A
  far : ∀ g, g < wd.heap.size → A ≤ g → W.heap[g]? = wd.heap[g]?
  outer : 0 < L.length → ∃ g, a = some ⟨g, 0, none⟩ ∧ g < A ∧ (∃ cs fz, W.heap[g]? = some (.cells cs 39 fz)) ∧ ∀ j (_ : j < L.length) (h : j < vs.length), W.cell? ⟨g, j * 2 + 1, none⟩ = some vs[j]
  own : ∀ j (h : j < vs.length) (h2 : j < L.length), i ≤ j → OwnA W B vs[j] L[j].arcs ∧ ∀ g, vs[j].ownBlock = some g → g < A
  ap : ∀ j k (hj : j < vs.length) (hk : k < vs.length), j ≠ k → ∀ g, vs[j].ownBlock = some g → vs[k].ownBlock ≠ some g
theorem TH.step {w wd W W' : World} {B A : Nat} {a : Option Addr} {vs : List Value} {L : List Au.St} {i : Nat} (h : TH w wd W B A a vs L i) {row : Option Nat} (hg : W.grownBy W' row)
    (hr : ∀ g, row = some g → B ≤ g ∧ g < A ∧ (∃ cs fz, W.heap[g]? = some (.cells cs 41 fz)) ∧ ∀ j (hj : j < vs.length), i ≤ j → vs[j].ownBlock ≠ some g) : TH w wd W' B A a vs L i where
  len := h.len
  low := h.low
  below := h.below.trans ⟨hg.os, hg.tape, hg.output, hg.size, fun k hk => hg.block k (by have := h.size; have := h.top; have := h.low; have := h.base; omega) fun e => by have := hr k e.symm; have := h.low; omega⟩
  size := Nat.le_trans h.size hg.size
  top := h.top
  base := h.base
  far := fun g h1 h2 => (hg.block g (by have := h.size; omega) fun e => by have := (hr g e.symm).2.1; omega).trans (h.far g h1 h2)
  outer := fun h0 => by
    obtain ⟨g, e, h2, ⟨cs, fz, h3⟩, h4⟩ := h.outer h0
    have hlt : g < W.heap.size := by have := h.size; have := h.top; omega
    have hne : some g ≠ row := fun e => by
      obtain ⟨_, _, ⟨cs', fz', k⟩, _⟩ := hr g e.symm
      exact kinds_ne h3 k (by decide) rfl
    exact ⟨g, e, h2, ⟨cs, fz, (hg.block g hlt hne).trans h3⟩, fun j hj hj2 => (World.cell?_of_block (a := ⟨g, j * 2 + 1, none⟩) (hg.block g hlt hne)).trans (h4 j hj hj2)⟩
  own := fun j hj hj2 hij => by
    obtain ⟨o1, o2⟩ := h.own j hj hj2 hij
    refine ⟨World.ownsRow.kept o1 hg ?_, o2⟩
    cases e : vs[j].ownBlock with
    | none => exact .inl rfl
    | some g => exact .inr fun e2 => (hr g e2.symm).2.2.2 j hj hij e
  ap := h.ap
theorem TH.next {w wd W : World} {B A : Nat} {a : Option Addr} {vs : List Value} {L : List Au.St} {i : Nat} (h : TH w wd W B A a vs L i) : TH w wd W B A a vs L (i + 1) :=
  ⟨h.len, h.low, h.below, h.size, h.top, h.base, h.far, h.outer, fun j hj hj2 hij => h.own j hj hj2 (by omega), h.ap⟩
theorem TH.quiet {w wd W W' : World} {B A : Nat} {a : Option Addr} {vs : List Value} {L : List Au.St} {i : Nat} (h : TH w wd W B A a vs L i) (hb : Below W.heap.size W W') : TH w wd W' B A a vs L i :=
  h.step (row := none) ⟨hb.os, hb.tape, hb.output, hb.size, fun k hk _ => hb.block k hk⟩ fun g e => by cases e
/-- One of them is at hand. -/
structure TI (w wd W : World) (B A : Nat) (a : Option Addr) (vs : List Value) (L : List Au.St) (i : Nat) (v : Value) (n : Nat) : Prop where
  th : TH w wd W B A a vs L (i + 1)
  at' : vs[i]? = some v
  row : ∃ xs, W.ownsRow B 41 3 v n xs
  lt : ∀ g, v.ownBlock = some g → g < A
theorem TH.open {w wd W : World} {B A : Nat} {a : Option Addr} {vs : List Value} {L : List Au.St} {i : Nat} (h : TH w wd W B A a vs L i) (hi : i < L.length) : ∃ v, TI w wd W B A a vs L i v L[i].arcs.length := by
  have hv : i < vs.length := by rw [h.len]; exact hi
  obtain ⟨o1, o2⟩ := h.own i hv hi (Nat.le_refl _)
  exact ⟨vs[i], h.next, List.getElem?_eq_getElem hv, ⟨_, o1⟩, o2⟩
theorem TI.step {w wd W W' : World} {B A : Nat} {a : Option Addr} {vs : List Value} {L : List Au.St} {i n : Nat} {v : Value} (h : TI w wd W B A a vs L i v n) {row : Option Nat} (hg : W.grownBy W' row) (hr : row = none ∨ row = v.ownBlock) : TH w wd W' B A a vs L (i + 1) := by
  refine h.th.step hg fun g e => ?_
  rcases hr with hr | hr
  · rw [hr] at e; cases e
  · rw [hr] at e
    obtain ⟨xs, ho⟩ := h.row
    refine ⟨(ho.lt g e).1, h.lt g e, ?_, fun j hj hij => ?_⟩
    · rcases ho.2 with ⟨h1, _⟩ | ⟨g', cap, cur, h1, _, hh, _⟩
      · rw [h1] at e; cases e
      · rw [h1] at e
        obtain rfl : g' = g := by simpa [Value.ownBlock] using e
        exact ⟨_, _, hh⟩
    · obtain ⟨hi, hv⟩ := List.getElem?_eq_some_iff.1 h.at'
      exact h.th.ap i j hi hj (by omega) g (by rw [hv]; exact e)
theorem TI.form {w wd W : World} {B A : Nat} {a : Option Addr} {vs : List Value} {L : List Au.St} {i n : Nat} {v : Value} (h : TI w wd W B A a vs L i v n) : ∃ b cap, v = .slice b n cap ∧ n ≤ cap ∧ cap ≤ 9223372036854775807 := by
  obtain ⟨xs, ho⟩ := h.row
  obtain ⟨b, cap, h1, h2, h3, _⟩ := (RowC.mk (κ := fun _ => 0) (c := 0) (ownsRow_base ho (Nat.zero_le _)) fun _ _ => rfl).form
  exact ⟨b, cap, h1, h2, h3⟩
theorem TI.cells {w wd W : World} {B A : Nat} {a b : Option Addr} {vs : List Value} {L : List Au.St} {i n cap k : Nat} (h : TI w wd W B A a vs L i (.slice b n cap) n) (hk : k < n) :
    ∃ g, b = some ⟨g, 0, none⟩ ∧ (∀ j, W.frozen? ⟨g, j, none⟩ = false) ∧ ∃ x y z, W.cell? ⟨g, k * 3, none⟩ = some x ∧ W.cell? ⟨g, k * 3 + 1, none⟩ = some y ∧ W.cell? ⟨g, k * 3 + 2, none⟩ = some z := by
  obtain ⟨xs, ho⟩ := h.row
  obtain ⟨b', cap', h1, h2, h3, h4⟩ := (RowC.mk (κ := fun _ => 0) (c := 0) (ownsRow_base ho (Nat.zero_le _)) fun _ _ => rfl).form
  simp only [Value.slice.injEq, true_and] at h1
  obtain ⟨rfl, rfl⟩ := h1
  obtain ⟨g, h5, _, _, h6, h7⟩ := h4 (by omega)
  have hl : xs.length = n * 3 := ho.1
  exact ⟨g, h5, h6, _, _, _, h7 _ _ (List.getElem?_eq_getElem (by omega)), h7 _ _ (List.getElem?_eq_getElem (by omega)), h7 _ _ (List.getElem?_eq_getElem (by omega))⟩
theorem TI.set {w wd W : World} {B A g : Nat} {a : Option Addr} {vs : List Value} {L : List Au.St} {i n cap : Nat} (h : TI w wd W B A a vs L i (.slice (some ⟨g, 0, none⟩) n cap) n) (j : Nat) (u : Value) : TI w wd (W.setCell ⟨g, j, none⟩ u) B A a vs L i (.slice (some ⟨g, 0, none⟩) n cap) n := by
  obtain ⟨xs, ho⟩ := h.row
  obtain ⟨o1, o2⟩ := ho.stored j u
  exact ⟨h.step o2 (.inr rfl), h.at', ⟨_, o1⟩, h.lt⟩
theorem TI.quiet {w wd W W' : World} {B A : Nat} {a : Option Addr} {vs : List Value} {L : List Au.St} {i n : Nat} {v : Value} (h : TI w wd W B A a vs L i v n) (hb : Below W.heap.size W W') : TI w wd W' B A a vs L i v n := by
  obtain ⟨xs, ho⟩ := h.row
  exact ⟨h.th.quiet hb, h.at', ⟨_, ownsRow_keep ho fun k hk => hb.block k (ho.lt k hk).2⟩, h.lt⟩
theorem TI.cell {w wd W : World} {B A g : Nat} {vs : List Value} {L : List Au.St} {i n : Nat} {v : Value} (h : TI w wd W B A (some ⟨g, 0, none⟩) vs L i v n) : W.cell? ⟨g, i * 2 + 1, none⟩ = some v := by
  obtain ⟨hi, hv⟩ := List.getElem?_eq_some_iff.1 h.at'
  have hl := h.th.len
  obtain ⟨g', e, _, _, h4⟩ := h.th.outer (by omega)
  simp only [Option.some.injEq, Addr.mk.injEq, and_true] at e
  subst e
  rw [← hv]
  exact h4 i (by omega) hi
theorem TH.start {w wa wd : World} {B : Nat} {a : Option Addr} {vs : List Value} {L : List Au.St} (h0 : vs.length = L.length) (hB : w.heap.size ≤ B) (hBa : B ≤ wa.heap.size)
    (h4 : 0 < L.length → ∃ g, a = some ⟨g, 0, none⟩ ∧ g < wa.heap.size ∧ B ≤ g ∧ (∃ cs fz, wa.heap[g]? = some (.cells cs 39 fz)) ∧ ∀ j (h : j < L.length) (h2 : j < vs.length), wa.cell? ⟨g, j * 2, none⟩ = some (.bool L[j].fin) ∧ wa.cell? ⟨g, j * 2 + 1, none⟩ = some vs[j])
    (h5 : ∀ j (h : j < L.length) (h2 : j < vs.length), OwnA wa B vs[j] L[j].arcs) (h6 : ∀ j k (hj : j < vs.length) (hk : k < vs.length), j ≠ k → ∀ g, vs[j].ownBlock = some g → vs[k].ownBlock ≠ some g)
    (hb : Below w.heap.size w wd) (hbd : Below wa.heap.size wa wd) : TH w wd wd B wa.heap.size a vs L 0 where
  len := h0
  low := hB
  below := hb
  size := Nat.le_refl _
  top := hbd.size
  base := hBa
  far := fun _ _ _ => rfl
  outer := fun hp => by
    obtain ⟨g, k1, k2, _, ⟨cs, fz, k4⟩, k5⟩ := h4 hp
    exact ⟨g, k1, k2, ⟨cs, fz, (hbd.block g k2).trans k4⟩, fun j hj hj2 => (World.cell?_of_block (a := ⟨g, j * 2 + 1, none⟩) (hbd.block g k2)).trans (k5 j hj hj2).2⟩
  own := fun j hj hj2 _ => ⟨ownsRow_keep (h5 j hj2 hj) fun k hk => hbd.block k ((h5 j hj2 hj).lt k hk).2, fun g hg => ((h5 j hj2 hj).lt g hg).2⟩
  ap := h6
theorem new_two (w : World) : ∀ j u, [Value.int .i64 0, .int .i64 0, .int .i64 8, .int .i64 0, .int .i64 0, .int .i64 8][j]? = some u → (w.alloc (.cells #[.int .i64 0, .int .i64 0, .int .i64 8, .int .i64 0, .int .i64 0, .int .i64 8] 41)).cell? ((⟨w.heap.size, 0, none⟩ : Addr).add j) = some u :=
  new_cells w _ _
/-- 'append(v, two arcs)', which lie in a new block. -/
theorem wpList_push2 {ops : Array Oper} {rest : List Oper} {o : Oper} {a : Act} {Q : Exit → Act → World → Prop} {w : World} (hgd : o.guard = none) (s x : Operand)
    (ho : o.op = .call { callee := .builtin .append, args := #[s, x], argTypes := #[37, 37] })
    (B : Nat) (hB : B ≤ w.heap.size) (v : Value) (n : Nat) (hs : a.eval s = v) (h : ∃ xs, w.ownsRow B 41 3 v n xs) (hx : a.eval x = .slice (some ⟨w.heap.size, 0, none⟩) 2 2)
    (hb : n ≤ 1000)
    (hk : ∀ b c w', (∃ row, (row = none ∨ row = v.ownBlock) ∧ w.grownBy w' row) → wpList Try.prog ops Q rest (a.put o.dst (.slice b (n + 2) c)) w') :
    wpList Try.prog ops Q (o :: rest) a (w.alloc (.cells #[.int .i64 0, .int .i64 0, .int .i64 8, .int .i64 0, .int .i64 0, .int .i64 8] 41)) := by
  obtain ⟨ii, hi, hz0, hz1, hz2⟩ := info_parts Try.infoA
  obtain ⟨xs, hown⟩ := h
  refine wpList_append_two _ hgd s x 37 ho B 41 ii _ 3 24 Try.underlying37 hi hz0 hz1 hz2 rfl (by decide) _ _ _ hs (hown.alloc _) ⟨w.heap.size, 0, none⟩ 2 2 [.int .i64 0, .int .i64 0, .int .i64 8, .int .i64 0, .int .i64 0, .int .i64 8] hx rfl (new_two w) (one_of rfl) (by unfold maxLen; omega) (by omega) (by simp; omega) ?_
  intro v' w' h1 h2
  obtain ⟨b, c, rfl, h3, h4, _⟩ := (RowC.mk (κ := fun _ => 0) (c := 0) (ownsRow_base h1 (Nat.zero_le _)) fun _ _ => rfl).form
  refine hk b c w' ?_
  rcases Ap.Two.drop h2 with ⟨_, h5⟩ | ⟨_, h5⟩
  · exact ⟨_, .inr rfl, h5⟩
  · exact ⟨_, .inl rfl, h5⟩
end Go.Proofs.Ytdcofdndkpmpaaa

/-
  DfaTight, walked.
-/
namespace Go.Proofs.Ytdcofdndkpmpaaa
open Go.RowKit
set_option maxRecDepth 100000 in
set_option maxHeartbeats 4000000 in
theorem tight_walk (w : World) (F : Nat → Prop) (u : Value) (d : List Au.Lo) (most : Int) (hu : LoS F w u d) (hbig : ∀ S, (Au.rowsOf d S).flatten.length ≤ 1099511627776) :
    Calls Try.prog 4 #[u, .int .i64 most] w fun e w' => e = .returned (.bool true) ∧ Below w.heap.size w w' := by
  obtain ⟨n, hdn⟩ : ∃ n, d.length = n := ⟨_, rfl⟩
  have HU : Hid (∀ W, Below w.heap.size w W → LoS F W u d) := fun W hb => hu.below hb
  have HT : Hid (n ≤ 8 → most ≤ 400 → ∀ W, Below w.heap.size w W → _) := fun h1 h2 W hb => tightP_any F W u d most (HU.out W hb) (by omega) hbig (by omega)
  have HR : Hid (n ≤ 8 → most ≤ 400 → ∀ W, Below w.heap.size w W → _) := fun h1 h2 W hb => tightR_any F W u d most (HU.out W hb) (by omega) (by omega)
  have HRW : Hid (most ≤ 400 → ∀ i (h : i < (Au.tightL d most).length), (Au.tightL d most)[i].arcs.length ≤ 256) := fun h => Au.tightL_row (by omega)
  generalize Au.tightL d most = L at *
  generalize Au.tightE d most = E at *
  obtain ⟨ad, cd, rfl, hjunk⟩ := hu
  rw [hdn] at HT HR ⊢
  clear hjunk HU hbig
  have hdn2 := Lib.hid hdn
  clear hdn
  go_enter Try.func4, Try.ntmps4
  go_wp2_with fail
  refine (awake_any w).mono ?_
  rintro e w1 ⟨rfl, hb⟩
  have HB1 := Lib.hid hb
  clear hb
  by_cases hn : (n : Int) ≤ 8
  rotate_left
  · have hn2 : (8 : Int) < (n : Int) := by omega
    clear HT HR HRW
    go_wp2_with fail
    refine (awake_any w1).mono ?_
    rintro e w2 ⟨rfl, hb⟩
    have HB2 : Hid (Below w.heap.size w w2) := chain HB1.out hb
    clear hb
    go_wp2_with fail
    go_ret
    exact ⟨rfl, HB2.out⟩
  have hn2 : ¬ (8 : Int) < (n : Int) := by omega
  by_cases hm : most ≤ 400
  rotate_left
  · have hm2 : (400 : Int) < most := by omega
    clear HT HR HRW
    go_wp2_with fail
    refine (awake_any w1).mono ?_
    rintro e w2 ⟨rfl, hb⟩
    have HB2 : Hid (Below w.heap.size w w2) := chain HB1.out hb
    clear hb
    go_wp2_with fail
    go_ret
    exact ⟨rfl, HB2.out⟩
  have hm2 : ¬ (400 : Int) < most := by omega
  have HT2 := Lib.hid (HT.out (by omega) hm)
  have HR2 := Lib.hid (HR.out (by omega) hm)
  have HRW2 := Lib.hid (HRW.out hm)
  have H2 := Lib.hid (HT2.out w1 HB1.out)
  clear HT HR HRW
  go_wp2_with fail
  refine H2.out.mono ?_
  rintro e wa ⟨va, rfl, hva, hb⟩
  have HBa : Hid (Below w.heap.size w wa) := chain HB1.out hb
  have HBA := Lib.hid hb
  have HVA : Hid (∀ W, Below wa.heap.size wa W → StS (fun _ => True) W va L) := fun W hb => (hva.sts.below hb).wide fun _ _ _ => trivial
  obtain ⟨vs, a, cap, h0, rfl, h2, h3, h4, h5, h6⟩ := hva
  have HTH : Hid (∀ wd, Below wa.heap.size wa wd → TH w wd wd w1.heap.size wa.heap.size a vs L 0) := fun wd hbd => TH.start h0 HB1.out.size hb.size h4 h5 h6 (chain HBa.out hbd) hbd
  have H3 := Lib.hid (HR2.out wa HBa.out)
  clear h0 h4 h5 h6 hb H2 HR2
  go_wp2_with fail
  refine H3.out.mono ?_
  rintro e wb ⟨vb, rfl, hvb, hb⟩
  have HBb : Hid (Below w.heap.size w wb) := chain HBa.out hb
  have HBab := Lib.hid hb
  have HVB : Hid (∀ W, Below wb.heap.size wb W → StS (fun g => wa.heap.size ≤ g) W vb L) := fun W hb => hvb.below hb
  obtain ⟨ab, cb, rfl, hjunk⟩ := hvb
  have H4 := Lib.hid (HT2.out wb HBb.out)
  clear hjunk hb H3 HT2
  go_wp2_with fail
  refine H4.out.mono ?_
  rintro e wc ⟨vc, rfl, hvc, hb⟩
  have HBc : Hid (Below w.heap.size w wc) := chain HBb.out hb
  have HBbc := Lib.hid hb
  have HBac : Hid (Below wa.heap.size wa wc) := chain HBab.out hb
  have hvc2 := hvc.sts
  have HVC : Hid (∀ W, Below wc.heap.size wc W → StS (fun g => wa.heap.size ≤ g) W vc L) := fun W hb => (hvc2.below hb).wide fun g _ h => Nat.le_trans HBab.out.size h
  obtain ⟨ac, cc, rfl, hjunk⟩ := hvc2
  have G5 := same_any (fun _ => True) (fun g => wa.heap.size ≤ g) wc _ _ L L (HVA.out wc HBac.out) (HVB.out wc HBbc.out)
  rw [decide_eq_true rfl] at G5
  have H5 := Lib.hid G5
  clear hvc hjunk hb H4 HVA G5
  go_wp2_with fail
  refine H5.out.mono ?_
  rintro e wd ⟨rfl, hb⟩
  have HBd : Hid (Below w.heap.size w wd) := chain HBc.out hb
  have HVBd : Hid (StS (fun g => wa.heap.size ≤ g) wd _ L) := HVB.out wd (chain HBbc.out hb)
  have HVCd : Hid (StS (fun g => wa.heap.size ≤ g) wd _ L) := HVC.out wd hb
  have HTd := Lib.hid (HTH.out wd (chain HBac.out hb))
  have hAd : wa.heap.size ≤ wd.heap.size := (chain HBac.out hb).size
  have hBA1 : w1.heap.size ≤ wa.heap.size := HBA.out.size
  clear hb H5 HVB HVC HTH HBA HBab HBbc HBac HBa HBb HBc HB1
  generalize wa.heap.size = A at *
  generalize w1.heap.size = B at *
  go_wp2_with fail
  go_loopg [11] L.length (fun gg s11 wx => ∃ (i : Nat), i ≤ L.length ∧ gg = L.length - i ∧ s11 = .int .i64 i ∧ Hid (TH w wd wx B A a vs L i))
  case atStart => exact ⟨0, Nat.zero_le _, rfl, rfl, HTd⟩
  case round =>
    clear HTd
    obtain ⟨i, hi, rfl, rfl, hT⟩ := hrel
    by_cases hil : i < L.length
    rotate_left
    · have j1 : ¬ (i : Int) < (L.length : Int) := by omega
      have HBr := Lib.hid hT.out.below
      have G6 := same_any _ _ wr _ _ L L (HVCd.out.keep hT.out.size fun g h1 h2 => hT.out.far g h2 h1) (HVBd.out.keep hT.out.size fun g h1 h2 => hT.out.far g h2 h1)
      rw [decide_eq_true rfl] at G6
      have H6 := Lib.hid G6
      clear G6 hT HVCd HVBd
      go_wp2_with fail
      refine H6.out.mono ?_
      rintro e wz ⟨rfl, hb⟩
      have HBz : Hid (Below w.heap.size w wz) := chain HBr.out hb
      clear hb
      go_wp2_with fail
      go_ret
      exact ⟨rfl, HBz.out⟩
    have j1 : (i : Int) < (L.length : Int) := by omega
    obtain ⟨v, hI⟩ := hT.out.open hil
    have hrw := HRW2.out i hil
    obtain ⟨ga, ha, _⟩ := hI.th.outer (by omega)
    subst ha
    obtain ⟨b, cp, hv, hcp1, hcp2⟩ := hI.form
    subst hv
    have HI := Lib.hid hI
    generalize L[i].arcs.length = m at *
    clear hT hI
    go_wp2_with fail
    go_loopg [12] m (fun gg s12 wx => ∃ (k : Nat), k ≤ m ∧ gg = m - k ∧ s12 = .int .i64 k ∧ Hid (TI w wd wx B A (some ⟨ga, 0, none⟩) vs L i (.slice b m cp) m))
    case atStart => exact ⟨0, Nat.zero_le _, rfl, rfl, HI⟩
    case round =>
      clear HI
      obtain ⟨k, hk, rfl, rfl, hI⟩ := hrel
      have c0 := hI.out.cell
      by_cases hkm : k < m
      · have j2 : (k : Int) < (m : Int) := by omega
        obtain ⟨g, hg, hf, x, y, z, c1, c2, c3⟩ := hI.out.cells hkm
        subst hg
        have f1 := hf (k * 3)
        have f2 := hf (k * 3 + 1)
        have f3 := hf (k * 3 + 2)
        have HN : Hid (TI w wd (((wr.setCell ⟨g, k * 3, none⟩ (.int .i64 0)).setCell ⟨g, k * 3 + 1, none⟩ (.int .i64 0)).setCell ⟨g, k * 3 + 2, none⟩ (.int .i64 9)) B A (some ⟨ga, 0, none⟩) vs L i (.slice (some ⟨g, 0, none⟩) m cp) m) := ((hI.out.set _ _).set _ _).set _ _
        clear hf hI
        go_wp2_with fail
        go_roundg (m - (k + 1))
        case rel => exact ⟨k + 1, by omega, rfl, by go_num, HN⟩
        case measure => omega
      · have j2 : ¬ (k : Int) < (m : Int) := by omega
        obtain ⟨hBr, hrow⟩ : B ≤ wr.heap.size ∧ ∃ xs, wr.ownsRow B 41 3 (.slice b m cp) m xs := ⟨by have := hI.out.th.size; omega, hI.out.row⟩
        have HRO := Lib.hid hrow
        have HST : Hid (∀ W, (∃ row, (row = none ∨ row = (Value.slice b m cp).ownBlock) ∧ wr.grownBy W row) → TH w wd W B A (some ⟨ga, 0, none⟩) vs L (i + 1)) := fun W ⟨row, h1, h2⟩ => hI.out.step h2 h1
        have j3 : ¬ ((m + 2 : Nat) : Int) < 2 := by omega
        clear hrow hI
        go_wp2_with (at_builtin; refine wpList_push2 rfl _ _ rfl B hBr (.slice b m cp) m rfl HRO.out rfl (by omega) ?_; intro b2 c2 w6 hgr; have HT6 := Lib.hid (HST.out w6 hgr); clear hgr)
        go_roundg (L.length - (i + 1))
        case rel => exact ⟨i + 1, by omega, rfl, by go_num, HT6⟩
        case measure => omega
end Go.Proofs.Ytdcofdndkpmpaaa

/-
  Pairs alike.
-/
namespace Go.Proofs.Ytdcofdndkpmpaaa
open Go.RowKit
theorem pair_eq (w : World) (a b c d : Int) : (Op.equalIn 10000 79 (.agg #[.int .i64 a, .int .i64 b]) (.agg #[.int .i64 c, .int .i64 d])).run Try.prog w = .ok ((a == c) && (b == d)) w := by
  obtain ⟨ii, hi, hz0, hz1, hz2⟩ := info_parts Try.infoN
  rw [run_equalIn_array (e := 3) (n := 2) _ 9999 _ _ Try.underlying79 hi]
  have hc : Try.prog.cellsOf 3 = 1 := by kernel_rfl
  have hr : List.range 2 = [0, 1] := rfl
  have hp : ∀ (x y : Int) (w : World), (part 3 #[.int .i64 x, .int .i64 y] (0 * 1)).run Try.prog w = .ok (.int .i64 x) w := fun x y w => by kernel_rfl
  have hp1 : ∀ (x y : Int) (w : World), (part 3 #[.int .i64 x, .int .i64 y] (1 * 1)).run Try.prog w = .ok (.int .i64 y) w := fun x y w => by kernel_rfl
  have hg : ∀ (e : Nat) (x y : Int) (w : World), (Op.equalIn (e + 1) 3 (.int .i64 x) (.int .i64 y)).run Try.prog w = .ok (x == y) w := fun e x y w => by
    simp [Op.equalIn, run_underlying Try.underlying3]
  have he : ∀ (x y : Int) (w : World), (Op.equalIn 9999 3 (.int .i64 x) (.int .i64 y)).run Try.prog w = .ok (x == y) w := fun x y w => hg 9998 x y w
  have hp2 : ∀ (x y : Int) (w : World), (part 3 #[.int .i64 x, .int .i64 y] 1).run Try.prog w = .ok (.int .i64 y) w := hp1
  rw [hc, hr]
  simp only [Op.eqItems, Sem.run_bind, hp, he, Result.andThen_ok]
  cases h1 : (a == c) <;> cases h2 : (b == d) <;> simp [hp2, he, h2]
theorem pair_ne {a b c d : Int} (h : ¬ (a = c ∧ b = d)) (w : World) : (Op.equalIn 10000 79 (.agg #[.int .i64 a, .int .i64 b]) (.agg #[.int .i64 c, .int .i64 d])).run Try.prog w = .ok false w := by
  rw [pair_eq]
  congr 1
  by_cases h1 : a = c
  · have h2 : ¬ b = d := fun e => h ⟨h1, e⟩
    rw [beq_eq_false_iff_ne.2 h2, Bool.and_false]
  · rw [beq_eq_false_iff_ne.2 h1, Bool.false_and]
theorem pair_is (a b : Int) (w : World) : (Op.equalIn 10000 79 (.agg #[.int .i64 a, .int .i64 b]) (.agg #[.int .i64 a, .int .i64 b])).run Try.prog w = .ok true w := by
  rw [pair_eq, beq_self_eq_true, beq_self_eq_true]
  rfl
end Go.Proofs.Ytdcofdndkpmpaaa

/-
  The given Both: the walk.
-/
namespace Go.Proofs.Ytdcofdndkpmpaaa
open Go.RowKit
namespace Au
theorem pairs_prod {a b : List St} (ha : Fits a) (hb : Fits b) : ((pair (ofL a) (ofL b)).plain.met (0, 0) (a.length * b.length)).length ≤ a.length * b.length := pair_few ha.row hb.row ha.pos hb.pos (a.length * b.length)
theorem pair_fits {a b : List St} (ha : Fits a) (hb : Fits b) (hs : a.length * b.length ≤ 20000) : Fits (meets a b) := by
  obtain ⟨r1, r2⟩ := meets_rows ha hb
  have r3 := meets_len a b
  have r4 := pair_few ha.row hb.row ha.pos hb.pos (a.length * b.length)
  exact ⟨r1, by unfold pairs at r3; omega, r2⟩
end Au
/-- A pair's block, made and not yet written. -/
structure NewP (n : Nat) (W : World) (g : Nat) : Prop where
  c0 : W.cell? ⟨g, 0, none⟩ = some (.int .i64 0)
  c1 : W.cell? ⟨g, 1, none⟩ = some (.int .i64 0)
  f : ∀ j, W.frozen? ⟨g, j, none⟩ = false
  lt : g < W.heap.size
  lo : n ≤ g
theorem NewP.new {n : Nat} {V W' : World} (hn : n ≤ V.heap.size) (hb : Below (V.alloc (.cells #[.int .i64 0, .int .i64 0] 79)).heap.size (V.alloc (.cells #[.int .i64 0, .int .i64 0] 79)) W') : NewP n W' V.heap.size := by
  have hl : V.heap.size < (V.alloc (.cells #[.int .i64 0, .int .i64 0] 79)).heap.size := by simp
  have hk := hb.block V.heap.size hl
  exact ⟨(cell_same (a := ⟨V.heap.size, 0, none⟩) hk).trans (by rw [World.cell?_alloc_at _ _ _ _ rfl]; rfl), (cell_same (a := ⟨V.heap.size, 1, none⟩) hk).trans (by rw [World.cell?_alloc_at _ _ _ _ rfl]; rfl), fun j => (World.frozen?_of_block (a := ⟨V.heap.size, j, none⟩) hk).trans (World.frozen?_alloc_at _ _ _ _ rfl), Nat.lt_of_lt_of_le hl hb.size, hn⟩
theorem NewP.newD {n : Nat} {V W' : World} (hn : n ≤ V.heap.size) (hb : Below (V.alloc (.cells #[.int .i64 0, .int .i64 0] 79)).drew.heap.size (V.alloc (.cells #[.int .i64 0, .int .i64 0] 79)).drew W') : NewP n W' V.heap.size :=
  NewP.new hn ((Below.refl _ _).drew.trans hb)
theorem NewP.below {n g : Nat} {W W' : World} (h : NewP n W g) (hb : Below W.heap.size W W') : NewP n W' g :=
  have hk := hb.block g h.lt
  ⟨(cell_same (a := ⟨g, 0, none⟩) hk).trans h.c0, (cell_same (a := ⟨g, 1, none⟩) hk).trans h.c1, fun j => (World.frozen?_of_block (a := ⟨g, j, none⟩) hk).trans (h.f j), Nat.lt_of_lt_of_le h.lt hb.size, h.lo⟩
theorem NewP.stored {n g : Nat} {W : World} (h : NewP n W g) (u v : Value) : ((W.setCell ⟨g, 0, none⟩ u).setCell ⟨g, 1, none⟩ v).cell? ⟨g, 0, none⟩ = some u ∧ ((W.setCell ⟨g, 0, none⟩ u).setCell ⟨g, 1, none⟩ v).cell? ⟨g, 1, none⟩ = some v := by
  have h1 : (⟨g, 1, none⟩ : Addr) ≠ ⟨g, 0, none⟩ := by simp
  exact ⟨(World.cell?_setCell_other _ _ _ _ h1).trans (World.cell?_setCell_same _ _ _ h.c0), World.cell?_setCell_same _ _ _ ((World.cell?_setCell_other _ _ _ _ h1.symm).trans h.c1)⟩
set_option maxRecDepth 100000 in
set_option maxHeartbeats 2000000 in
theorem bothR_any (F G : Nat → Prop) (w : World) (u v : Value) (a b : List Au.St) (most : Int) (hu : StS F w u a) (hv : StS G w v b) (hs : a.length * b.length ≤ 20000) :
    Calls Try.prog 20 #[u, v, .int .i64 most] w fun e w' => ∃ r, e = .returned (.tuple #[r, .int .i64 (Au.bothE a b most)]) ∧ StS (fun g => w.heap.size ≤ g) w' r (Au.bothL a b most) ∧ Below w.heap.size w w' := by
  have HA := Lib.hid (checkR_any F w u a hu)
  have HB : Hid (∀ W, Below w.heap.size w W → Calls Try.prog 10 #[v] W fun e w' => e = .returned (.int .i64 (Au.check b)) ∧ Below W.heap.size W w') := fun W hb => checkR_any G W v b (hv.below hb)
  by_cases hck : Au.check a = 0 ∧ Au.check b = 0
  rotate_left
  · exact bothR_bad F G w u v a b most hu hv hck
  have HOM := Lib.hid (fun h2 => Au.both_out_many (most := most) hck h2)
  have HOF := Lib.hid (fun h2 => Au.both_out_few (most := most) hck h2)
  have HFA := Lib.hid ((Au.check_iff a).1 hck.1)
  have HFB := Lib.hid ((Au.check_iff b).1 hck.2)
  have HFT := Lib.hid (Au.pair_fits HFA.out HFB.out hs)
  have HML : Hid (∀ i, ((Au.pair (Au.ofL a) (Au.ofL b)).plain.met (0, 0) i).length ≤ 20000) := fun i => Nat.le_trans (Nat.le_trans (Au.met_le _ _ _ _ (Au.pairs_done HFA.out.row HFB.out.row HFA.out.pos HFB.out.pos)) (Au.pairs_prod HFA.out HFB.out)) hs
  have HU := Lib.hid hu
  have HV := Lib.hid hv
  rw [hck.1] at HA
  rw [hck.2] at HB
  clear hck hs
  obtain ⟨ba, capa, rfl, _, _, hua⟩ := hu
  obtain ⟨bb, capb, rfl, _, _, hvb⟩ := hv
  obtain ⟨n, hn⟩ : ∃ n, n = a.length := ⟨_, rfl⟩
  obtain ⟨k, hk⟩ : ∃ k, k = b.length := ⟨_, rfl⟩
  have HNA := Lib.hid hn
  have HNB := Lib.hid hk
  obtain ⟨ga, oa, rfl, hga, _, hca⟩ := hua HFA.out.pos
  obtain ⟨gb, ob, rfl, hgb, _, hcb⟩ := hvb HFB.out.pos
  have hn2 : n ≤ 20000 := by have := HFA.out.top; omega
  have hk2 : k ≤ 20000 := by have := HFB.out.top; omega
  have HCA := Lib.hid hca
  have HCB := Lib.hid hcb
  rw [← hn] at HA HU ⊢
  rw [← hk] at HB HV ⊢
  clear hca hcb hn hk hua hvb
  go_enter Try.func20, Try.ntmps20
  go_wp2_with fail
  refine HA.out.mono ?_
  rintro e w1 ⟨rfl, hb⟩
  have HB1 := Lib.hid hb
  have H2 := Lib.hid (HB.out w1 hb)
  clear hb HA
  go_wp2_with fail
  refine H2.out.mono ?_
  rintro e w2 ⟨rfl, hb⟩
  have HB2 : Hid (Below w.heap.size w w2) := chain HB1.out hb
  clear hb HB H2 HB1
  have HP0 : Hid (OwnP (w2.alloc (.cells #[.int .i64 0, .int .i64 0] 79)) w2.heap.size (.slice (some ⟨w2.heap.size, 0, none⟩) 1 1) [(0, 0)]) := World.ownsRow_lit (e := 79) (size := 2) w2 #[.int .i64 0, .int .i64 0] 1 (Nat.le_refl _) (by unfold maxLen; omega) rfl
  have HO0 : Hid (Outr (w2.alloc (.cells #[.int .i64 0, .int .i64 0] 79)) w2.heap.size (.slice none 0 0) (.slice none 0 0) [] [] []) := ⟨World.ownsRow_nil _ _ _ _, World.ownsRow_nil _ _ _ _, rfl, fun j h => by simp at h⟩
  have HB3 : Hid (Below w2.heap.size w2 (w2.alloc (.cells #[.int .i64 0, .int .i64 0] 79))) := (Below.refl _ _).alloc (Nat.le_refl _) _
  go_wp2_with fail
  generalize w2.alloc (.cells #[.int .i64 0, .int .i64 0] 79) = w3 at *
  go_loopg [8, 9, 10] (most.toNat + 1) (fun gg s8 s9 s10 wx => ∃ (i : Nat) (vs vo : Value) (L : List (Bool × Value)), i ≤ most.toNat ∧ gg = most.toNat + 1 - i ∧ vs = s8 ∧ vo = s9 ∧ s10 = .int .i64 i ∧ Hid (OwnP wx w2.heap.size vs ((Au.pair (Au.ofL a) (Au.ofL b)).plain.met (0, 0) i)) ∧ Hid (Outr wx w2.heap.size (.slice none 0 0) vo [] L ((Au.pair (Au.ofL a) (Au.ofL b)).plain.out (0, 0) i)) ∧ Below w2.heap.size w2 wx)
  case atStart => exact ⟨0, _, _, [], Nat.zero_le _, rfl, rfl, rfl, rfl, HP0, HO0, HB3.out⟩
  case round =>
    clear HP0 HO0 HB3
    obtain ⟨i, vs, vo, L, hi, rfl, rfl, rfl, rfl, hSe, hO, hbel⟩ := hrel
    have HBE := Lib.hid hbel
    have hml := HML.out i
    obtain ⟨g5, p5, rfl, hl5, hlt5, hc5⟩ := hSe.out.form (Au.out_pos _ _ _)
    by_cases him : i < ((Au.pair (Au.ofL a) (Au.ofL b)).plain.met (0, 0) i).length
    · have j1 : (i : Int) < ((((Au.pair (Au.ofL a) (Au.ofL b)).plain.met (0, 0) i).length : Nat) : Int) := by omega
      by_cases hmo : most < ((((Au.pair (Au.ofL a) (Au.ofL b)).plain.met (0, 0) i).length : Nat) : Int)
      · have HE8 := Lib.hid (HOM.out (by have := Au.pairs_many HFA.out HFB.out i hmo; omega))
        clear hc5 hbel hO hSe
        go_wp2_with fail
        go_ret2
        refine ⟨.slice none 0 0, ?_, ?_, HB2.out.trans (HBE.out.mono HB2.out.size)⟩
        · rw [HE8.out.1]
          rfl
        · rw [HE8.out.2]
          exact StS.nil _ _
      have hai : Hid (((Au.pair (Au.ofL a) (Au.ofL b)).plain.met (0, 0) i)[i]? = some ((Au.pair (Au.ofL a) (Au.ofL b)).plain.met (0, 0) i)[i]) := List.getElem?_eq_getElem him
      have hin := Au.met_all (Au.pair (Au.ofL a) (Au.ofL b)).plain (fun p => p.1 < a.length ∧ p.2 < b.length) (fun p c q => Au.pair_go_in HFA.out HFB.out p c q) (0, 0) ⟨HFA.out.pos, HFB.out.pos⟩ i _ (List.getElem_mem him)
      have hba := Lib.hid (fun c => Au.bytes_at' (Au.pair (Au.ofL a) (Au.ofL b)).plain _ _ i c hai.out)
      have hnx := Lib.hid (Au.states_next (Au.pair (Au.ofL a) (Au.ofL b)).plain (0, 0) i _ hai.out)
      have hbyn := Lib.hid (fun c => Au.bytes_none (Au.pair (Au.ofL a) (Au.ofL b)).plain ((Au.pair (Au.ofL a) (Au.ofL b)).plain.met (0, 0) i)[i] ((Au.pair (Au.ofL a) (Au.ofL b)).plain.met (0, 0) i) c)
      have hbys := Lib.hid (fun c t => Au.bytes_some (Au.pair (Au.ofL a) (Au.ofL b)).plain ((Au.pair (Au.ofL a) (Au.ofL b)).plain.met (0, 0) i)[i] ((Au.pair (Au.ofL a) (Au.ofL b)).plain.met (0, 0) i) c t)
      have hble := Lib.hid (fun c => Au.bytes_len (Au.pair (Au.ofL a) (Au.ofL b)).plain ((Au.pair (Au.ofL a) (Au.ofL b)).plain.met (0, 0) i)[i] ((Au.pair (Au.ofL a) (Au.ofL b)).plain.met (0, 0) i) c)
      have hadd := Lib.hid (fun c => Au.bytes_add (Au.pair (Au.ofL a) (Au.ofL b)).plain ((Au.pair (Au.ofL a) (Au.ofL b)).plain.met (0, 0) i)[i] ((Au.pair (Au.ofL a) (Au.ofL b)).plain.met (0, 0) i) c)
      have HOL : Hid (((Au.pair (Au.ofL a) (Au.ofL b)).plain.out (0, 0) i).length ≤ i) := by
        have := Au.out_length (Au.pair (Au.ofL a) (Au.ofL b)).plain (0, 0) i
        show _ ≤ _
        omega
      obtain ⟨C1, C2⟩ := hc5 i him
      clear hai hc5
      generalize hpe : ((Au.pair (Au.ofL a) (Au.ofL b)).plain.met (0, 0) i)[i] = p at *
      clear hpe
      generalize (Au.pair (Au.ofL a) (Au.ofL b)).plain.out (0, 0) i = out at *
      obtain ⟨M, hM⟩ : ∃ M, (Au.pair (Au.ofL a) (Au.ofL b)).plain.met (0, 0) i = M := ⟨_, rfl⟩
      simp only [hM] at *
      clear hM
      obtain ⟨x, y⟩ := p
      dsimp only at hin C1 C2
      have C3 := ((HB2.out.trans (hbel.mono HB2.out.size)).cell (p := ⟨ga, oa + x * 2, none⟩) hga).trans (HCA.out x hin.1).1
      have C4 := ((HB2.out.trans (hbel.mono HB2.out.size)).cell (p := ⟨gb, ob + y * 2, none⟩) hgb).trans (HCB.out y hin.2).1
      have hx : x < n := by rw [HNA.out]; exact hin.1
      have hy : y < k := by rw [HNB.out]; exact hin.2
      have hfin : Hid ((Au.pair (Au.ofL a) (Au.ofL b)).plain.fin (x, y) = (a[x].fin && b[y].fin)) := by
        show ((Au.ofL a).fin x && (Au.ofL b).fin y) = _
        simp only [Au.ofL, List.getElem?_eq_getElem hin.1, List.getElem?_eq_getElem hin.2]
      generalize a[x].fin = fa at *
      generalize b[y].fin = fb at *
      have k1 : (x : Int) < (n : Int) := by omega
      have k2 : (y : Int) < (k : Int) := by omega
      have l3 : ga < wr.heap.size := by have := HB2.out.size; have := HBE.out.size; omega
      have l4 : gb < wr.heap.size := by have := HB2.out.size; have := HBE.out.size; omega
      have C5 : (wr.alloc (.cells #[.int .i64 x, .int .i64 y] 79)).cell? ⟨ga, oa + x * 2, none⟩ = some (.bool fa) := (World.cell?_alloc_past _ _ _ l3).trans C3
      have C6 : (wr.alloc (.cells #[.int .i64 x, .int .i64 y] 79)).cell? ⟨gb, ob + y * 2, none⟩ = some (.bool fb) := (World.cell?_alloc_past _ _ _ l4).trans C4
      have D1 : (wr.alloc (.cells #[.int .i64 x, .int .i64 y] 79)).cell? ⟨wr.heap.size, 0, none⟩ = some (.int .i64 x) := by rw [World.cell?_alloc_at _ _ _ _ rfl]; rfl
      have D2 : (wr.alloc (.cells #[.int .i64 x, .int .i64 y] 79)).cell? ⟨wr.heap.size, 1, none⟩ = some (.int .i64 y) := by rw [World.cell?_alloc_at _ _ _ _ rfl]; rfl
      have HB4 : Hid (Below w2.heap.size w2 (wr.alloc (.cells #[.int .i64 x, .int .i64 y] 79))) := HBE.out.alloc HBE.out.size _
      have hB4 : Hid (Below wr.heap.size wr (wr.alloc (.cells #[.int .i64 x, .int .i64 y] 79))) := (Below.refl _ _).alloc (Nat.le_refl _) _
      have HP4 := Lib.hid (hSe.out.below hB4.out)
      have HO4 := Lib.hid (hO.out.below hB4.out)
      have hown : Hid (∀ g, (Value.slice (some ⟨g5, 0, none⟩) M.length p5).ownBlock = some g → g ≠ wr.heap.size) := fun g hg => by have := (hSe.out.kind g hg).1; omega
      have hxk : Hid ((wr.alloc (.cells #[.int .i64 x, .int .i64 y] 79)).heap[wr.heap.size]? = some (.cells #[.int .i64 x, .int .i64 y] 79 (0, 0))) := Go.Deep.blk_alloc_new _ _
      have hbs : w2.heap.size ≤ wr.heap.size := HBE.out.size
      have HX : Hid (wr.heap.size < (wr.alloc (.cells #[.int .i64 x, .int .i64 y] 79)).heap.size) := by show _ < _; simp
      clear hbel hin C3 C4 hSe hO hB4 HBE
      go_upto_region 11 with (fail)

      go_cut [12] (fun s12 wx => s12 = .pointer (some ⟨(wr.alloc (.cells #[.int .i64 x, .int .i64 y] 79)).heap.size, 0, none⟩) ∧ wx = (wr.alloc (.cells #[.int .i64 x, .int .i64 y] 79)).alloc (.cells #[.bool (fa && fb), .slice none 0 0] 39))
      case first =>
        cases fa with
        | false =>
          go_wp2_with fail
          go_meet
          refine ⟨?_, ?_⟩
          · simp
          · rfl
        | true =>
          go_wp2_with fail
          go_meet
          refine ⟨?_, ?_⟩
          · simp
          · rfl
      case rest =>
        obtain ⟨rfl, rfl⟩ := hcut
        have HI := Lib.hid (HO4.out.open HB4.out.size (fa && fb))
        clear C1 C2 C5 C6 D1 D2
        generalize wr.alloc (.cells #[.int .i64 x, .int .i64 y] 79) = w4 at *
        generalize wr.heap.size = gp at *
        have hB5 : Hid (Below w4.heap.size w4 (w4.alloc (.cells #[.bool (fa && fb), .slice none 0 0] 39))) := (Below.refl _ _).alloc (Nat.le_refl _) _
        have HB5 : Hid (Below w2.heap.size w2 (w4.alloc (.cells #[.bool (fa && fb), .slice none 0 0] 39))) := chain HB4.out hB5.out
        have HP5 := Lib.hid (HP4.out.below hB5.out)
        have hxk5 := Lib.hid ((hB5.out.block gp HX.out).trans hxk.out)
        have hbs5 : w2.heap.size ≤ w4.heap.size := HB4.out.size
        have HX5 : Hid (gp < (w4.alloc (.cells #[.bool (fa && fb), .slice none 0 0] 39)).heap.size) := Nat.lt_of_lt_of_le HX.out hB5.out.size
        clear hB5 HO4 HP4 hxk HX HB4
        generalize (fa && fb) = ff at *
        generalize w4.alloc (.cells #[.bool ff, .slice none 0 0] 39) = w5 at *
        generalize w4.heap.size = bs at *
        go_wp2_with fail
        go_loopg [8, 13] 256 (fun gg s8 s13 wx => ∃ (c : Nat) (vs va : Value), c ≤ 256 ∧ gg = 256 - c ∧ vs = s8 ∧ s13 = .int .i64 c ∧ Hid (OwnP wx w2.heap.size vs ((Au.pair (Au.ofL a) (Au.ofL b)).plain.bytes (x, y) M c).1) ∧ Hid (∀ g, vs.ownBlock = some g → g ≠ gp) ∧ Hid (wx.heap[gp]? = some (.cells #[.int .i64 x, .int .i64 y] 79 (0, 0))) ∧ Hid (Inn wx w2.heap.size bs (.slice none 0 0) vo va [] L out ff ((Au.pair (Au.ofL a) (Au.ofL b)).plain.bytes (x, y) M c).2) ∧ Below w2.heap.size w2 wx)
        case atStart => exact ⟨0, _, _, Nat.zero_le _, rfl, rfl, rfl, HP5, hown, hxk5, HI, HB5.out⟩
        case round =>
          clear HI HP5 hown hxk5 HB5 HX5
          obtain ⟨c, vs, va, hc, rfl, rfl, rfl, hS, hown, hX, hI, hbel⟩ := hrel
          have HBE := Lib.hid hbel
          by_cases hcm : c < 256
          · have j3 : (c : Int) < 256 := by omega
            have hpl := hadd.out c
            have h1 := hbyn.out c
            have h2 := hbys.out c
            have hp2 := hble.out c
            have hmp : 0 < ((Au.pair (Au.ofL a) (Au.ofL b)).plain.bytes (x, y) M c).1.length := by
              obtain ⟨r, hr⟩ := Au.bytes_grows (Au.pair (Au.ofL a) (Au.ofL b)).plain (x, y) M c
              rw [hr, List.length_append]
              omega
            generalize (Au.pair (Au.ofL a) (Au.ofL b)).plain.bytes (x, y) M c = p at *
            obtain ⟨m, ar⟩ := p
            dsimp only at hpl h2 hp2 hI hS hmp
            obtain ⟨g6, p6, rfl, hg6, hl6, hc6⟩ := hS.out.form hmp
            have HC6 := Lib.hid hc6
            have D1 : wr.cell? ⟨gp, 0, none⟩ = some (.int .i64 x) := by simp [World.cell?, hX.out]
            have D2 : wr.cell? ⟨gp, 1, none⟩ = some (.int .i64 y) := by simp [World.cell?, hX.out]
            have HGS := Lib.hid (Au.pair_some (Au.ofL a) (Au.ofL b) x y c)
            have HGN := Lib.hid (Au.pair_none (Au.ofL a) (Au.ofL b) x y c)
            have SA : Hid (∀ W, Below wr.heap.size wr W → Calls Try.prog 14 #[.slice (some ⟨ga, oa, none⟩) n capa, .int .i64 x, .int .i64 c] W fun e w' => e = .returned (.int .i64 (Au.code ((Au.ofL a).step x c))) ∧ Below W.heap.size W w') := fun W hb => by
              have h := stepR_any F W _ a (x : Int) (c : Int) (HU.out.below (HB2.out.trans ((HBE.out.trans (hb.mono HBE.out.size)).mono HB2.out.size)))
              have e : Au.step a (x : Int) (c : Int) = Au.code ((Au.ofL a).step x c) := Au.step_code HFA.out (some x) c
              rw [e] at h
              exact h
            have SB : Hid (∀ W, Below wr.heap.size wr W → Calls Try.prog 14 #[.slice (some ⟨gb, ob, none⟩) k capb, .int .i64 y, .int .i64 c] W fun e w' => e = .returned (.int .i64 (Au.code ((Au.ofL b).step y c))) ∧ Below W.heap.size W w') := fun W hb => by
              have h := stepR_any G W _ b (y : Int) (c : Int) (HV.out.below (HB2.out.trans ((HBE.out.trans (hb.mono HBE.out.size)).mono HB2.out.size)))
              have e : Au.step b (y : Int) (c : Int) = Au.code ((Au.ofL b).step y c) := Au.step_code HFB.out (some y) c
              rw [e] at h
              exact h
            have H1 := Lib.hid h1
            have H2 := Lib.hid h2
            clear h1 h2 hbel hc6
            go_upto_region 15 with (fail)
            go_cut [14] (fun s14 wx => ∃ gq, s14 = .pointer (some ⟨gq, 0, none⟩) ∧ wx.cell? ⟨gq, 0, none⟩ = some (.int .i64 (Au.code ((Au.ofL a).step x c))) ∧ wx.cell? ⟨gq, 1, none⟩ = some (.int .i64 (Au.code ((Au.ofL b).step y c))) ∧ Hid (Below wr.heap.size wr wx))
            case first =>
              have HQ : Hid (Below wr.heap.size wr wr.drew) := (Below.refl _ _).drew
              have hgp : gp < wr.heap.size := (Array.getElem?_eq_some_iff.1 hX.out).1
              have HK : Hid (∀ W, Below wr.heap.size wr W → W.cell? ⟨gp, 0, none⟩ = some (.int .i64 x) ∧ W.cell? ⟨gp, 1, none⟩ = some (.int .i64 y)) := fun W hb => ⟨(hb.cell (p := ⟨gp, 0, none⟩) hgp).trans D1, (hb.cell (p := ⟨gp, 1, none⟩) hgp).trans D2⟩
              go_region_held3 (fun W => (W.cell? ⟨gp, 0, none⟩ = some (.int .i64 x) ∧ W.cell? ⟨gp, 1, none⟩ = some (.int .i64 y)) ∧ Below wr.heap.size wr W) (refine ⟨HK.out _ ?_, ?_⟩ <;> first | assumption | exact Below.alloc (by assumption) (Below.size (by assumption)) _ | exact (Below.alloc (by assumption) (Below.size (by assumption)) _).drew | exact (Below.alloc (Below.refl _ _) (Nat.le_refl _) _).drew | exact Below.alloc (Below.refl _ _) (Nat.le_refl _) _ | exact (Below.refl _ _).drew | exact Below.refl _ _ | exact Below.setCell (Below.setCell (by assumption) (NewP.lo (by assumption)) _) (NewP.lo (by assumption)) _) (first | (go_at_call_of 14 ga; refine (SA.out _ (by (first | assumption | exact Below.alloc (by assumption) (Below.size (by assumption)) _ | exact (Below.alloc (by assumption) (Below.size (by assumption)) _).drew | exact (Below.alloc (Below.refl _ _) (Nat.le_refl _) _).drew | exact Below.alloc (Below.refl _ _) (Nat.le_refl _) _ | exact (Below.refl _ _).drew | exact Below.refl _ _))).mono ?_; rintro e wx ⟨rfl, hb0⟩; have hb1 : Below wr.heap.size wr wx := chain (by (first | assumption | exact Below.alloc (by assumption) (Below.size (by assumption)) _ | exact (Below.alloc (by assumption) (Below.size (by assumption)) _).drew | exact (Below.alloc (Below.refl _ _) (Nat.le_refl _) _).drew | exact Below.alloc (Below.refl _ _) (Nat.le_refl _) _ | exact (Below.refl _ _).drew | exact Below.refl _ _)) hb0; (first | (have hn := NewP.new (n := wr.heap.size) (by first | exact Nat.le_refl _ | exact Below.size (by assumption)) hb0; have hn0 := hn.c0; have hn1 := hn.c1; have hnf0 := hn.f 0; have hnf1 := hn.f 1) | (have hn := NewP.newD (n := wr.heap.size) (by first | exact Nat.le_refl _ | exact Below.size (by assumption)) hb0; have hn0 := hn.c0; have hn1 := hn.c1; have hnf0 := hn.f 0; have hnf1 := hn.f 1) | (have hn := NewP.below (n := wr.heap.size) (by assumption) hb0; have hn0 := hn.c0; have hn1 := hn.c1; have hnf0 := hn.f 0; have hnf1 := hn.f 1) | skip)) | (go_at_call_of 14 gb; refine (SB.out _ (by (first | assumption | exact Below.alloc (by assumption) (Below.size (by assumption)) _ | exact (Below.alloc (by assumption) (Below.size (by assumption)) _).drew | exact (Below.alloc (Below.refl _ _) (Nat.le_refl _) _).drew | exact Below.alloc (Below.refl _ _) (Nat.le_refl _) _ | exact (Below.refl _ _).drew | exact Below.refl _ _))).mono ?_; rintro e wy ⟨rfl, hb0⟩; have hb1 : Below wr.heap.size wr wy := chain (by (first | assumption | exact Below.alloc (by assumption) (Below.size (by assumption)) _ | exact (Below.alloc (by assumption) (Below.size (by assumption)) _).drew | exact (Below.alloc (Below.refl _ _) (Nat.le_refl _) _).drew | exact Below.alloc (Below.refl _ _) (Nat.le_refl _) _ | exact (Below.refl _ _).drew | exact Below.refl _ _)) hb0; (first | (have hn := NewP.new (n := wr.heap.size) (by first | exact Nat.le_refl _ | exact Below.size (by assumption)) hb0; have hn0 := hn.c0; have hn1 := hn.c1; have hnf0 := hn.f 0; have hnf1 := hn.f 1) | (have hn := NewP.newD (n := wr.heap.size) (by first | exact Nat.le_refl _ | exact Below.size (by assumption)) hb0; have hn0 := hn.c0; have hn1 := hn.c1; have hnf0 := hn.f 0; have hnf1 := hn.f 1) | (have hn := NewP.below (n := wr.heap.size) (by assumption) hb0; have hn0 := hn.c0; have hn1 := hn.c1; have hnf0 := hn.f 0; have hnf1 := hn.f 1) | skip)))
              all_goals
                go_wp2_with fail
                go_meet
                refine ⟨_, rfl, ?_, ?_, ?_⟩
                · first | exact (hn.stored _ _).1 | (rw [World.cell?_alloc_at _ _ _ _ rfl]; rfl)
                · first | exact (hn.stored _ _).2 | (rw [World.cell?_alloc_at _ _ _ _ rfl]; rfl)
                · first | exact Below.setCell (Below.setCell hb1 hn.lo _) hn.lo _ | exact Below.alloc hb1 hb1.size _
            case rest =>
              obtain ⟨gq, rfl, E1, E2, hbq⟩ := hcut
              have HBq : Hid (Below w2.heap.size w2 wc) := HBE.out.trans (hbq.out.mono HBE.out.size)
              have HPq := Lib.hid (hS.out.below hbq.out)
              have HIq := Lib.hid (hI.out.below hbq.out)
              have hgp0 : gp < wr.heap.size := (Array.getElem?_eq_some_iff.1 hX.out).1
              have hgp : gp < wc.heap.size := Nat.lt_of_lt_of_le hgp0 hbq.out.size
              have hl7 : g6 < wc.heap.size := Nat.lt_of_lt_of_le hl6 hbq.out.size
              have HXq : Hid (wc.heap[gp]? = some (.cells #[.int .i64 x, .int .i64 y] 79 (0, 0))) := (hbq.out.block gp hgp0).trans hX.out
              have HCq : Hid (∀ j (_ : j < m.length), wc.cell? ⟨g6, j * 2, none⟩ = some (.int .i64 m[j].1) ∧ wc.cell? ⟨g6, j * 2 + 1, none⟩ = some (.int .i64 m[j].2)) := fun j hj => ⟨(hbq.out.cell (p := ⟨g6, j * 2, none⟩) hl6).trans (HC6.out j hj).1, (hbq.out.cell (p := ⟨g6, j * 2 + 1, none⟩) hl6).trans (HC6.out j hj).2⟩
              clear hS hI hX SA SB D1 D2 HC6 HBE hbq hgp0 hl6
              cases hsa : (Au.ofL a).step x c with
              | none =>
                rw [hsa] at E1
                have e0 : Au.code none = -1 := rfl
                rw [e0] at E1
                have hq := H1.out (HGN.out (.inl hsa))
                have HQ := Lib.hid hq
                clear H1 H2 HGS HGN hq e0 hsa E2
                go_wp2_with fail
                go_roundg (256 - (c + 1))
                case rel => exact ⟨c + 1, _, _, by omega, rfl, rfl, by go_num, by rw [HQ.out]; exact HPq, hown, HXq, by rw [HQ.out]; exact HIq, HBq.out⟩
                case measure => omega
              | some s =>
                cases hsb : (Au.ofL b).step y c with
                | none =>
                  rw [hsa] at E1
                  rw [hsb] at E2
                  have e0 : Au.code none = -1 := rfl
                  have e1 : Au.code (some s) = (s : Int) := rfl
                  rw [e1] at E1
                  rw [e0] at E2
                  have hq := H1.out (HGN.out (.inr hsb))
                  have HQ := Lib.hid hq
                  have j5 : ¬ (s : Int) < 0 := by omega
                  clear H1 H2 HGS HGN hq e0 e1 hsa hsb
                  go_wp2_with fail
                  go_roundg (256 - (c + 1))
                  case rel => exact ⟨c + 1, _, _, by omega, rfl, rfl, by go_num, by rw [HQ.out]; exact HPq, hown, HXq, by rw [HQ.out]; exact HIq, HBq.out⟩
                  case measure => omega
                | some t =>
                  rw [hsa] at E1
                  rw [hsb] at E2
                  have e0 : Au.code (some t) = (t : Int) := rfl
                  have e1 : Au.code (some s) = (s : Int) := rfl
                  rw [e1] at E1
                  rw [e0] at E2
                  have hq := H2.out (s, t) (HGS.out s t hsa hsb)
                  have j5 : ¬ (s : Int) < 0 := by omega
                  have j6 : ¬ (t : Int) < 0 := by omega
                  have hfe : Au.find (Au.pair (Au.ofL a) (Au.ofL b)).plain.same m (s, t) = Au.find (fun a b => decide (a = b)) m (s, t) := rfl
                  rw [hfe] at hq
                  have HQ := Lib.hid hq
                  have hfle := Au.find_le (fun a b : Nat × Nat => decide (a = b)) m (s, t)
                  have hmiss := Lib.hid (Au.find_miss (fun a b : Nat × Nat => decide (a = b)) m (s, t))
                  have hhit := Lib.hid (Au.find_hit (fun a b : Nat × Nat => decide (a = b)) m (s, t))
                  have hgq : gq < wc.heap.size := World.block_lt_of_cell? wc ⟨gq, 0, none⟩ E1
                  have HE : Hid (∀ W, Below wc.heap.size wc W → W.cell? ⟨gq, 0, none⟩ = some (.int .i64 (s : Int)) ∧ W.cell? ⟨gq, 1, none⟩ = some (.int .i64 (t : Int))) := fun W hb => ⟨(hb.cell (p := ⟨gq, 0, none⟩) hgq).trans E1, (hb.cell (p := ⟨gq, 1, none⟩) hgq).trans E2⟩
                  have HC : Hid (∀ W, Below wc.heap.size wc W → ∀ j (_ : j < m.length), W.cell? ⟨g6, j * 2, none⟩ = some (.int .i64 m[j].1) ∧ W.cell? ⟨g6, j * 2 + 1, none⟩ = some (.int .i64 m[j].2)) := fun W hb j hj => ⟨(hb.cell (p := ⟨g6, j * 2, none⟩) hl7).trans (HCq.out j hj).1, (hb.cell (p := ⟨g6, j * 2 + 1, none⟩) hl7).trans (HCq.out j hj).2⟩
                  have HN0 : Hid (Below wc.heap.size wc wc) := Below.refl _ _
                  clear H1 H2 HGS HGN hq e0 e1 hsa hsb hfe HCq
                  generalize Au.find (fun a b => decide (a = b)) m (s, t) = fk at *
                  go_wp2_with fail
                  clear E1 E2
                  go_loopg [15] fk (fun gg vk wx => ∃ k : Nat, k ≤ fk ∧ gg = fk - k ∧ vk = .int .i64 k ∧ Hid (Below wc.heap.size wc wx))
                  case atStart => exact ⟨0, Nat.zero_le _, rfl, rfl, HN0⟩
                  case round =>
                    clear HN0
                    obtain ⟨k, hk, rfl, rfl, hbk⟩ := hrel
                    obtain ⟨E1, E2⟩ := HE.out wr hbk.out
                    by_cases hkf : k < fk
                    · obtain ⟨hkm, hsm⟩ := hmiss.out k hkf
                      have hsm := of_decide_eq_false hsm
                      have k1 : (k : Int) < (m.length : Int) := by omega
                      obtain ⟨C1, C2⟩ := HC.out wr hbk.out k hkm
                      generalize m[k] = mk at *
                      obtain ⟨m1, m2⟩ := mk
                      dsimp only at C1 C2
                      have hpe := pair_ne (a := (m1 : Int)) (b := (m2 : Int)) (c := (s : Int)) (d := (t : Int)) (fun h => hsm (by rw [show m1 = s by omega, show m2 = t by omega]))
                      clear hsm
                      go_wp2_with fail
                      go_quiet (fail)
                      go_wp2_with fail
                      go_roundg (fk - (k + 1))
                      case rel => exact ⟨k + 1, by omega, rfl, by go_num, belowN hbk.out _⟩
                      case measure => omega
                    · obtain rfl : k = fk := by omega
                      by_cases hkm : k < m.length
                      · have hhk := of_decide_eq_true (hhit.out hkm)
                        obtain ⟨C1, C2⟩ := HC.out wr hbk.out k hkm
                        rw [hhk] at C1 C2
                        dsimp only at C1 C2
                        have hpe := pair_is (s : Int) (t : Int)
                        have k1 : (k : Int) < (m.length : Int) := by omega
                        have k3 : ((k : Int) == (m.length : Int)) = false := beq_eq_false_iff_ne.2 (by omega)
                        have hq2 : (Au.pair (Au.ofL a) (Au.ofL b)).plain.bytes (x, y) M (c + 1) = (m, Au.grown ar c k) := by
                          rw [HQ.out, if_neg (by omega)]
                        have HQ2 := Lib.hid hq2
                        clear hhk hmiss hhit HQ hq2
                        go_wp2_with fail
                        go_quiet (fail)
                        have hq6 := belowN hbk.out nq
                        have HB6 : Hid (Below w2.heap.size w2 (wr.drewN nq)) := chain HBq.out hq6
                        have HP6 := Lib.hid (HPq.out.below hq6)
                        have HI6 := Lib.hid (HIq.out.below hq6)
                        have HX6 := Lib.hid ((hq6.block gp hgp).trans HXq.out)
                        have hgp6 : gp < (wr.drewN nq).heap.size := Nat.lt_of_lt_of_le hgp hq6.size
                        clear C1 C2 E1 E2 hq6 HPq HIq HXq HBq HE HC hbk
                        generalize wr.drewN nq = w6 at *
                        obtain ⟨_, s1, _, _⟩ := HI6.out.cells
                        have HG := Lib.hid (grown_any w6 w2.heap.size va ar c k HI6.out.arcs HB6.out.size (by omega) (by omega))
                        go_wp2_with fail
                        refine HG.out.mono ?_
                        rintro e w7 ⟨va', rfl, ha', htwo⟩
                        obtain ⟨a8, cp8, rfl, _, _, _⟩ := ha'.opened
                        obtain ⟨s2, s3⟩ := HI6.out.row_grown htwo
                        have HI7 := Lib.hid (HI6.out.grown htwo ha')
                        have HP7 := Lib.hid (HP6.out.grown (u := .slice a8 (Au.grown ar c k).length cp8) HI6.out htwo)
                        have HX7 := Lib.hid ((HI6.out.grown_far htwo (.slice a8 (Au.grown ar c k).length cp8) gp _ _ _ hgp6 HX6.out (by decide) (by decide)).trans HX6.out)
                        have HB7 : Hid (Below w2.heap.size w2 (w7.setCell ⟨bs, 1, none⟩ (.slice a8 (Au.grown ar c k).length cp8))) := (two_below HB6.out htwo (fun g hg => (HI6.out.arcs.lt g hg).1) HB6.out.size).setCell (p := ⟨bs, 1, none⟩) hbs5 _
                        clear ha' htwo s1 HG
                        go_wp2_with fail
                        go_roundg (256 - (c + 1))
                        case rel => exact ⟨c + 1, _, _, by omega, rfl, rfl, by go_num, by rw [HQ2.out]; exact HP7, hown, HX7, by rw [HQ2.out]; exact HI7, HB7.out⟩
                        case measure => omega
                      · obtain rfl : k = m.length := by omega
                        have k1 : ¬ (m.length : Int) < (m.length : Int) := by omega
                        have k3 : ((m.length : Int) == (m.length : Int)) = true := by simp
                        have hq2 : (Au.pair (Au.ofL a) (Au.ofL b)).plain.bytes (x, y) M (c + 1) = (m ++ [(s, t)], Au.grown ar c m.length) := by
                          rw [HQ.out, if_pos rfl]
                        have HQ2 := Lib.hid hq2
                        have hmb : m.length + 1 ≤ 1099511627776 := by omega
                        clear hmiss hhit HQ hq2
                        go_wp2_with fail
                        go_quiet (fail)
                        have hq6 := belowN hbk.out nq
                        have HB6 : Hid (Below w2.heap.size w2 (wr.drewN nq)) := chain HBq.out hq6
                        have HP6 := Lib.hid (HPq.out.below hq6)
                        have HI6 := Lib.hid (HIq.out.below hq6)
                        have HX6 := Lib.hid ((hq6.block gp hgp).trans HXq.out)
                        have hgp6 : gp < (wr.drewN nq).heap.size := Nat.lt_of_lt_of_le hgp hq6.size
                        obtain ⟨F1, F2⟩ := HE.out _ hq6
                        clear E1 E2 hq6 HPq HIq HXq HBq HE HC hbk
                        generalize wr.drewN nq = w6 at *
                        go_wp2_with (at_builtin; refine wpList_pushP rfl _ _ rfl w2.heap.size HB6.out.size (.slice (some ⟨g6, 0, none⟩) m.length p6) m s t rfl HP6.out rfl hmb ?_; intro vs' w7 hp7 ht7; have HI7 := Lib.hid (HI6.out.pushedP HP6.out ht7); obtain ⟨_, s1, _, _⟩ := HI7.out.cells)
                        have HP7 := Lib.hid hp7
                        have HB7 := Lib.hid (two_below HB6.out ht7 (fun g hg => (HP6.out.kind g hg).2.1) HB6.out.size)
                        have HX7 := Lib.hid ((ht7.far hgp6 fun e => hown.out _ e rfl).trans HX6.out)
                        have hgp7 : gp < w7.heap.size := Nat.lt_of_lt_of_le hgp6 ht7.size
                        have hown7 : Hid (∀ g, vs'.ownBlock = some g → g ≠ gp) := fun g hg e => by
                          rcases ht7.at hg with h | h
                          · exact hown.out g h e
                          · omega
                        have HG := Lib.hid (grown_any w7 w2.heap.size va ar c m.length HI7.out.arcs HB7.out.size (by omega) (by omega))
                        clear hp7 ht7 HP6 HI6 HX6
                        refine HG.out.mono ?_
                        rintro e w8 ⟨va', rfl, ha', htwo⟩
                        obtain ⟨a8, cp8, rfl, _, _, _⟩ := ha'.opened
                        obtain ⟨s2, s3⟩ := HI7.out.row_grown htwo
                        have HI8 := Lib.hid (HI7.out.grown htwo ha')
                        have HP8 := Lib.hid (HP7.out.grown (u := .slice a8 (Au.grown ar c m.length).length cp8) HI7.out htwo)
                        have HX8 := Lib.hid ((HI7.out.grown_far htwo (.slice a8 (Au.grown ar c m.length).length cp8) gp _ _ _ hgp7 HX7.out (by decide) (by decide)).trans HX7.out)
                        have HB8 : Hid (Below w2.heap.size w2 (w8.setCell ⟨bs, 1, none⟩ (.slice a8 (Au.grown ar c m.length).length cp8))) := (two_below HB7.out htwo (fun g hg => (HI7.out.arcs.lt g hg).1) HB7.out.size).setCell (p := ⟨bs, 1, none⟩) hbs5 _
                        clear ha' htwo s1 HG
                        go_wp2_with fail
                        go_roundg (256 - (c + 1))
                        case rel => exact ⟨c + 1, _, _, by omega, rfl, rfl, by go_num, by rw [HQ2.out]; exact HP8, hown7, HX8, by rw [HQ2.out]; exact HI8, HB8.out⟩
                        case measure => omega
          · obtain rfl : c = 256 := by omega
            obtain ⟨m1, m2⟩ := hnx.out
            have HN1 := Lib.hid m1
            have HN2 := Lib.hid m2
            obtain ⟨a7, cp7, rfl, _, _, _⟩ := hI.out.arcs.opened
            obtain ⟨s0, s1, _, _⟩ := hI.out.cells
            have hLl : Hid (L.length + 1 ≤ 1099511627776) := by
              have h1 := hI.out.told.len
              have h3 : out.length ≤ i := HOL.out
              show _ ≤ _
              omega
            clear m1 m2 hbel hnx
            go_wp2_with (at_builtin; refine wpList_pushT rfl _ _ rfl w2.heap.size HBE.out.size vo L ff a7 _ cp7 rfl hI.out.outs rfl hLl.out ?_; intro vo' w6 ho6 ht6)
            have HO6 := Lib.hid (hI.out.close ht6 ho6)
            have HS6 := Lib.hid (hS.out.closed hI.out ht6)
            have HB6 := Lib.hid (two_below HBE.out ht6 (fun g hg => (World.ownsRow.lt hI.out.outs g hg).1) HBE.out.size)
            clear ho6 ht6
            go_wp2_with fail
            go_roundg (most.toNat + 1 - (i + 1))
            case rel => exact ⟨i + 1, _, vo', _, by omega, by omega, rfl, rfl, by go_num, by rw [HN1.out]; exact HS6, by rw [HN2.out, hfin.out]; exact HO6, HB6.out⟩
            case measure => omega
    · have j1 : ¬ (i : Int) < ((((Au.pair (Au.ofL a) (Au.ofL b)).plain.met (0, 0) i).length : Nat) : Int) := by omega
      have hpos : 0 < ((Au.pair (Au.ofL a) (Au.ofL b)).plain.met (0, 0) i).length := Au.out_pos _ _ _
      obtain ⟨f1, f2⟩ := Au.pairs_few HFA.out HFB.out i (by unfold Au.Walk.Done; omega)
      have HE0 := Lib.hid (HOF.out (by rw [f1]; omega))
      have HLS := Lib.hid (leastR_any (fun _ => True) wr vo _ (by rw [f2]; exact hO.out.sts (fun _ => True) fun _ _ => trivial) HFT.out)
      clear f1 f2 hpos hbel hc5
      go_wp2_with fail
      refine HLS.out.mono ?_
      rintro e w5 ⟨r, rfl, hst, hb⟩
      have HST := Lib.hid hst
      have HB5 : Hid (Below w2.heap.size w2 w5) := chain HBE.out hb
      have HLE : Hid (w.heap.size ≤ wr.heap.size) := Nat.le_trans HB2.out.size HBE.out.size
      clear hst hb
      go_wp2_with fail
      go_ret2
      refine ⟨r, ?_, ?_, HB2.out.trans (HB5.out.mono HB2.out.size)⟩
      · rw [HE0.out.1]
        rfl
      · rw [HE0.out.2]
        exact HST.out.wide fun g _ hg => Nat.le_trans HLE.out hg

end Go.Proofs.Ytdcofdndkpmpaaa

/-
  DfaBoth, walked.
-/
namespace Go.Proofs.Ytdcofdndkpmpaaa
open Go.RowKit
set_option maxRecDepth 100000 in
set_option maxHeartbeats 4000000 in
theorem both_walk (w : World) (F G : Nat → Prop) (u v : Value) (a b : List Au.St) (most : Int) (hu : StS F w u a) (hv : StS G w v b) :
    Calls Try.prog 5 #[u, v, .int .i64 most] w fun e w' => e = .returned (.bool true) ∧ Below w.heap.size w w' := by
  have HU : Hid (∀ W, Below w.heap.size w W → StS F W u a) := fun W hb => hu.below hb
  have HV : Hid (∀ W, Below w.heap.size w W → StS G W v b) := fun W hb => hv.below hb
  have H2 : Hid (a.length * b.length ≤ 20000 → ∀ W, Below w.heap.size w W → _) := fun hs W hb => bothP_any F G W _ _ a b most (HU.out W hb) (HV.out W hb) hs
  have H3 : Hid (a.length * b.length ≤ 20000 → ∀ W, Below w.heap.size w W → _) := fun hs W hb => bothR_any F G W _ _ a b most (HU.out W hb) (HV.out W hb) hs
  have H4 : Hid (∀ W, Below w.heap.size w W → _) := fun W hb => LeastP_any F W _ a (HU.out W hb)
  have H5 : Hid (∀ W, Below w.heap.size w W → _) := fun W hb => checkR_any F W _ a (HU.out W hb)
  have H6 : Hid (Au.Fits a → ∀ W, Below w.heap.size w W → _) := fun hf W hb => leastR_any F W _ a (HU.out W hb) hf
  have HCK := Lib.hid (Au.check_iff a)
  generalize Au.bothL a b most = L at *
  generalize Au.bothE a b most = E at *
  obtain ⟨aa, ca, rfl, hjunk⟩ := hu
  obtain ⟨ab, cb, rfl, hjunk2⟩ := hv
  obtain ⟨la, hla⟩ : ∃ la, a.length = la := ⟨_, rfl⟩
  obtain ⟨lb, hlb⟩ : ∃ lb, b.length = lb := ⟨_, rfl⟩
  rw [hla] at H2 H3 H4 H5 H6 ⊢
  rw [hlb] at H2 H3 ⊢
  clear hjunk hjunk2 hla hlb HU HV
  go_enter Try.func5, Try.ntmps5
  go_wp2_with fail
  refine (awake_any w).mono ?_
  rintro e w1 ⟨rfl, hb⟩
  have HB1 := Lib.hid hb
  clear hb
  go_wp2_with fail
  refine (few_any w1 (la : Int)).mono ?_
  rintro e w2 ⟨rfl, hb⟩
  have HB2 : Hid (Below w.heap.size w w2) := chain HB1.out hb
  clear hb
  by_cases ha30 : (la : Int) ≤ 30
  rotate_left
  · rw [decide_eq_false ha30]
    go_wp2_with fail
    refine (awake_any w2).mono ?_
    rintro e wz ⟨rfl, hb⟩
    have HBz : Hid (Below w.heap.size w wz) := chain HB2.out hb
    clear hb
    go_wp2_with fail
    go_ret
    exact ⟨rfl, HBz.out⟩
  rw [decide_eq_true ha30]
  go_wp2_with fail
  refine (few_any w2 (lb : Int)).mono ?_
  rintro e w3 ⟨rfl, hb⟩
  have HB3 : Hid (Below w.heap.size w w3) := chain HB2.out hb
  clear hb
  by_cases hb30 : (lb : Int) ≤ 30
  rotate_left
  · rw [decide_eq_false hb30]
    go_wp2_with fail
    refine (awake_any w3).mono ?_
    rintro e wz ⟨rfl, hb⟩
    have HBz : Hid (Below w.heap.size w wz) := chain HB3.out hb
    clear hb
    go_wp2_with fail
    go_ret
    exact ⟨rfl, HBz.out⟩
  rw [decide_eq_true hb30]
  have hpc : (la : Int) * (lb : Int) = ((la * lb : Nat) : Int) := by simp
  have hpn : la * lb ≤ 900 := by
    have h1 : la * lb ≤ 30 * 30 := Nat.mul_le_mul (by omega) (by omega)
    omega
  have hp0 : (0 : Int) ≤ (la : Int) * (lb : Int) := by omega
  have hp1 : (la : Int) * (lb : Int) ≤ 900 := by omega
  have hp3 : (-9223372036854775808 : Int) ≤ (la : Int) * (lb : Int) := by omega
  have hp4 : (la : Int) * (lb : Int) ≤ 9223372036854775807 := by omega
  have H2 := Lib.hid (H2.out (by omega))
  have H3 := Lib.hid (H3.out (by omega))
  by_cases hp : (la : Int) * (lb : Int) ≤ 150
  rotate_left
  · have hp2 : (150 : Int) < (la : Int) * (lb : Int) := by omega
    clear hpc hpn
    go_wp2_with fail
    refine (awake_any w3).mono ?_
    rintro e wz ⟨rfl, hb⟩
    have HBz : Hid (Below w.heap.size w wz) := chain HB3.out hb
    clear hb
    go_wp2_with fail
    go_ret
    exact ⟨rfl, HBz.out⟩
  have hp2 : ¬ (150 : Int) < (la : Int) * (lb : Int) := by omega
  have G2 := Lib.hid (H2.out w3 HB3.out)
  clear hpc hpn H2
  go_wp2_with fail
  refine G2.out.mono ?_
  rintro e w4 ⟨x, rfl, hx, hb⟩
  have HB4 : Hid (Below w.heap.size w w4) := chain HB3.out hb
  have HXS : Hid (∀ W, Below w4.heap.size w4 W → StS (fun _ => True) W x L) := fun W hb => (hx.below hb).wide fun _ _ _ => trivial
  obtain ⟨ax, cx, rfl, hjunk⟩ := hx
  have G3 := Lib.hid (H3.out w4 HB4.out)
  clear hjunk hb G2 H3
  go_wp2_with fail
  refine G3.out.mono ?_
  rintro e w5 ⟨y, rfl, hy, hb⟩
  have HB5 : Hid (Below w.heap.size w w5) := chain HB4.out hb
  have HB45 := Lib.hid hb
  have HYS : Hid (∀ W, Below w5.heap.size w5 W → StS (fun _ => True) W y L) := fun W hb => (hy.below hb).wide fun _ _ _ => trivial
  obtain ⟨ay, cy, rfl, hjunk⟩ := hy
  have G4 := Lib.hid (H4.out w5 HB5.out)
  clear hjunk hb G3 H4
  go_wp2_with fail
  refine G4.out.mono ?_
  rintro e w6 ⟨l, hb, hcase⟩
  have HB6 : Hid (Below w.heap.size w w6) := chain HB5.out hb
  have HB56 := Lib.hid hb
  have HB46 : Hid (Below w4.heap.size w4 w6) := chain HB45.out hb
  have G5 := same_any (fun _ => True) (fun _ => True) w6 _ _ L L (HXS.out w6 HB46.out) (HYS.out w6 HB56.out)
  rw [decide_eq_true rfl] at G5
  have G5 := Lib.hid G5
  clear hb G4 HXS HYS HB45 HB56 HB46
  rcases hcase with ⟨hf, rfl, hl⟩ | ⟨hf, rfl⟩
  · have HLS : Hid (∀ W, Below w6.heap.size w6 W → StS (fun _ => True) W l (Au.least a)) := fun W hb => (hl.below hb).wide fun _ _ _ => trivial
    have hck := HCK.out.2 hf
    rw [hck] at H5
    have H6 := Lib.hid (H6.out hf)
    obtain ⟨al, cl, rfl, hjunk⟩ := hl
    clear hjunk hck
    go_wp2_with fail
    refine G5.out.mono ?_
    rintro e w7 ⟨rfl, hb⟩
    have HB7 : Hid (Below w.heap.size w w7) := chain HB6.out hb
    have HB67 := Lib.hid hb
    have G6 := Lib.hid (H5.out w7 HB7.out)
    clear hb G5 H5
    go_wp2_with fail
    refine G6.out.mono ?_
    rintro e w8 ⟨rfl, hb⟩
    have HB8 : Hid (Below w.heap.size w w8) := chain HB7.out hb
    have HB68 : Hid (Below w6.heap.size w6 w8) := chain HB67.out hb
    have G7 := Lib.hid (H6.out w8 HB8.out)
    clear hb G6 H6
    go_wp2_with fail
    refine G7.out.mono ?_
    rintro e w9 ⟨r, rfl, hr, hb⟩
    have HB9 : Hid (Below w.heap.size w w9) := chain HB8.out hb
    have G8 := same_any (fun _ => True) _ w9 _ _ (Au.least a) (Au.least a) (HLS.out w9 (chain HB68.out hb)) hr
    rw [decide_eq_true rfl] at G8
    have G8 := Lib.hid G8
    clear hr hb G7 HLS
    go_wp2_with fail
    refine G8.out.mono ?_
    rintro e wz ⟨rfl, hb⟩
    have HBz : Hid (Below w.heap.size w wz) := chain HB9.out hb
    clear hb
    go_wp2_with fail
    go_ret
    exact ⟨rfl, HBz.out⟩
  · have hck : ¬ Au.check a = 0 := fun h => hf (HCK.out.1 h)
    have hck2 : (Au.check a == 0) = false := by simpa using hck
    clear hck hf H6 HCK
    generalize Au.check a = ck at *
    go_wp2_with fail
    refine G5.out.mono ?_
    rintro e w7 ⟨rfl, hb⟩
    have HB7 : Hid (Below w.heap.size w w7) := chain HB6.out hb
    have G6 := Lib.hid (H5.out w7 HB7.out)
    clear hb G5 H5
    go_wp2_with fail
    refine G6.out.mono ?_
    rintro e w8 ⟨rfl, hb⟩
    have HB8 : Hid (Below w.heap.size w w8) := chain HB7.out hb
    clear hb G6
    go_wp2_with fail
    go_ret
    exact ⟨rfl, HB8.out⟩
end Go.Proofs.Ytdcofdndkpmpaaa

/-
  What the frames share: slices of texts that came in, each within reach.
-/
namespace Go.Proofs.Ytdcofdndkpmpaaa.frame
open Go.ChangeShapes Go.WideShapes Go.ChangeAt Go.RowKit
open Go.ChangeMaps (open_string shut_string)
theorem weights_strs {H : Type} {P : Program} {e : TypeId} {s : ByteArray} : ∀ {L : List ByteArray}, s ∈ L → s.size ∈ DataW.weightsAll P e (strs (H := H) L)
  | x :: r, h => by
    show s.size ∈ DataW.weights P e (.lit (.string x.data.toList)) ++ DataW.weightsAll P e (strs (H := H) r)
    rcases List.mem_cons.1 h with rfl | h
    · exact List.mem_append_left _ (by simp [DataW.weights])
    · exact List.mem_append_right _ (weights_strs h)
theorem strs_sized {H : Type} {enc : TypeId × Value → H} {W : World} {t e : TypeId} {a : Option Addr} {len cap j : Nat} {d : DataW H} {p : List MemPlace} {ts : List TypeId} {ds : List (DataW H)} (hsz : (DataW.weightsEach Try.prog ts ds).all (· ≤ reachBytes) = true) (h1 : ts[j]? = some t) (h2 : ds[j]? = some d)
    (ht : Try.prog.underlying t = some (.slice e)) (he : Try.prog.underlying e = some .string) (hc : Try.prog.cellsOf e = 1)
    (h : DataW.Trod enc Try.prog W 0 (fun _ => true) true t (.slice a len cap) d p) : ∃ ss, TxtS W a len ss ∧ (∀ s ∈ ss, s.size ≤ 140737488351232) ∧ len ≤ 9223372036854775807 := by
  obtain ⟨fuel, hf⟩ := h
  rcases open_strings ht he hc hf with ⟨hcs, hx⟩ | ⟨x, l, c, ss, hcs, _, hl, hm, hz, hx, hcell, hws⟩
  · simp [Value.cells] at hcs
    obtain ⟨rfl, rfl, rfl⟩ := hcs
    exact ⟨[], ⟨rfl, fun h => absurd h (by omega)⟩, fun s hs => (by cases hs), by omega⟩
  · simp [Value.cells] at hcs
    obtain ⟨rfl, rfl, rfl⟩ := hcs
    simp only [if_true] at hz
    have hd : d = .slice (strs (ss.take len)) (strs (ss.drop len)) := congrArg Prod.fst hx
    refine ⟨ss.take len, ⟨by rw [List.length_take]; omega, fun h0 => ?_⟩, fun s hs => ?_, by unfold maxLen at hm; omega⟩
    · obtain ⟨b, o, rfl, hb, hadd⟩ := addr_of rfl (hcell 0 (by omega))
      refine ⟨b, o, rfl, hb, fun i hi => ?_⟩
      have hi1 : i < len := by rw [List.length_take] at hi; omega
      have hi' : i < ss.length := by omega
      have := hcell i hi'
      rw [hadd] at this
      rw [this, List.getElem_take]
      simp [List.getD, hi']
    · have hmem : s.size ∈ d.weights Try.prog t := by
        rw [hd]
        simp only [DataW.weights, ht]
        exact List.mem_cons_of_mem _ (List.mem_append_left _ (weights_strs hs))
      have := List.all_eq_true.1 hsz _ (DataW.weights_mem_each h1 h2 _ hmem)
      simpa [reachBytes] using of_decide_eq_true this
end Go.Proofs.Ytdcofdndkpmpaaa.frame

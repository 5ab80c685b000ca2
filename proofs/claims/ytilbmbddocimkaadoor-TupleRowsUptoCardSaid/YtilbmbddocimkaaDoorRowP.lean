/-
  Rows of a text and a number, in turns, stand as their items do: the statement, of rows of bulk at most 1048576 together; the library's listed variables start as its text lays them.
-/
import Derived.Test.YtilbmbddocimkaaDoorRowW
import Derived.Test.YtilbmbddocimkaaDoorFrame
namespace Go.Proofs.YtilbmbddocimkaaDoor
open Go.RowKit Od Rw

set_option maxRecDepth 100000 in
set_option maxHeartbeats 1000000 in
theorem tupleRows_long (aS aT aX aY : Option Addr) (ls lt lx ly cs ct cx cy a b : Nat) (w : World)
    (hma : min (ls : Int) (lx : Int) = (a : Int)) (hmb : min (lt : Int) (ly : Int) = (b : Int)) (hab : 100 < a ∨ 100 < b) :
    Calls Tryd.prog 7 #[.slice aS ls cs, .slice aT lt ct, .slice aX lx cx, .slice aY ly cy] w fun e w' => e = .returned (.bool true) ∧ Below w.heap.size w w' := by
  by_cases ha : 100 < a
  · clear hab
    go_enter Tryd.func7, Tryd.ntmps7
    go_wp2_with fail
    refine (awake_any w).mono ?_
    rintro e w1 ⟨rfl, hb1⟩
    have HB1 := Lib.hid hb1
    clear hb1
    go_wp2_with fail
    refine (awake_any w1).mono ?_
    rintro e w2 ⟨rfl, hb1⟩
    have HB2 : Hid (Below w.heap.size w w2) := HB1.out.trans (hb1.mono HB1.out.size)
    clear hb1
    go_wp2_with fail
    go_ret
    exact ⟨rfl, HB2.out⟩
  · have hb : 100 < b := by omega
    clear hab
    go_enter Tryd.func7, Tryd.ntmps7
    go_wp2_with fail
    refine (awake_any w).mono ?_
    rintro e w1 ⟨rfl, hb1⟩
    have HB1 := Lib.hid hb1
    clear hb1
    go_wp2_with fail
    refine (awake_any w1).mono ?_
    rintro e w2 ⟨rfl, hb1⟩
    have HB2 : Hid (Below w.heap.size w w2) := HB1.out.trans (hb1.mono HB1.out.size)
    clear hb1
    go_wp2_with fail
    go_ret
    exact ⟨rfl, HB2.out⟩
end Go.Proofs.YtilbmbddocimkaaDoor
namespace Go.Proofs.YtilbmbddocimkaaDoor.lawRows
open Go.ChangeShapes Go.WideShapes Go.ChangeAt Go.RowKit
open Go.ChangeMaps (open_string shut_string)
open frame Od Rw

/-- A slice of texts that came in: empty, or a row of cells. -/
def IsStrs (w : World) (a : Option Addr) (len : Nat) (ss : List ByteArray) : Prop :=
  (len = 0 ∧ ss = []) ∨
  ∃ b off, a = some ⟨b, off, none⟩ ∧ b < w.heap.size ∧ ss.length = len ∧ (∀ i, i < ss.length → w.cell? ⟨b, off + i, none⟩ = some (.string (ss.getD i ByteArray.empty)))

theorem strs_of {H : Type} {enc : TypeId × Value → H} {W : World} {t e : TypeId} {a : Option Addr} {len cap : Nat} {d : DataW H} {p : List MemPlace} (ht : Tryd.prog.underlying t = some (.slice e)) (he : Tryd.prog.underlying e = some .string) (hc : Tryd.prog.cellsOf e = 1)
    (h : DataW.Trod enc Tryd.prog W 0 (fun _ => true) true t (.slice a len cap) d p) : ∃ ss, IsStrs W a len ss ∧ ∀ k, (ss.getD k ByteArray.empty).size ≤ Rows.uptoBulk d := by
  obtain ⟨fuel, hf⟩ := h
  rcases open_strings ht he hc hf with ⟨hcs, hx⟩ | ⟨x, l, c, ss, hcs, _, hl, hm, hz, hx, hcell, hws⟩
  · simp [Value.cells] at hcs
    obtain ⟨rfl, rfl, rfl⟩ := hcs
    exact ⟨[], .inl ⟨rfl, rfl⟩, fun k => by simp⟩
  · simp [Value.cells] at hcs
    obtain ⟨rfl, rfl, rfl⟩ := hcs
    simp only [if_true] at hz
    have hd : d = .slice (strs (ss.take len)) (strs (ss.drop len)) := congrArg Prod.fst hx
    refine ⟨ss.take len, ?_, fun k => ?_⟩
    · by_cases h0 : len = 0
      · exact .inl ⟨h0, by rw [h0]; rfl⟩
      · obtain ⟨b, off, spot⟩ := x
        have hc0 := hcell 0 (by omega)
        have hspot : spot = none := by simpa [Addr.add] using World.cell?_spot hc0
        subst hspot
        have hlt : b < W.heap.size := World.block_lt_of_cell? W _ hc0
        refine .inr ⟨b, off, rfl, hlt, by simp; omega, fun i hi => ?_⟩
        have hi1 : i < len := by simp at hi; omega
        have hi' : i < ss.length := by omega
        have := hcell i hi'
        rw [show (⟨b, off, none⟩ : Addr).add i = ⟨b, off + i, none⟩ from by unfold Addr.add; split <;> simp_all] at this
        rw [this]
        simp [List.getD, hi1]
    · by_cases hk : k < (ss.take len).length
      · have hmem : (DataW.lit (H := H) (.string ((ss.take len)[k]).data.toList)) ∈ strs (H := H) (ss.take len) := by
          unfold strs
          exact List.mem_map.2 ⟨_, List.getElem_mem hk, rfl⟩
        have h1 := part_le hmem
        have h2 := slice_elems (strs (H := H) (ss.take len)) (strs (H := H) (ss.drop len))
        rw [string_bulk] at h1
        rw [List.getD, List.getElem?_eq_getElem hk, hd]
        simp only [Option.getD_some]
        omega
      · rw [List.getD, List.getElem?_eq_none (by omega)]
        simp

theorem inRow_of {W : World} {aS aX : Option Addr} {ls lx : Nat} {ss : List ByteArray} {xs : List Int} (hS : IsStrs W aS ls ss) (hX : IsRow .i64 W aX lx xs) : InRow W aS aX (min ls lx) ss xs := by
  intro hn
  rcases hS with ⟨h, _⟩ | ⟨b, off, h1, h2, h3, h4⟩
  · omega
  · rcases hX with ⟨h, _⟩ | ⟨b', off', g1, g2, g3, g4, _⟩
    · omega
    · refine ⟨b, off, b', off', h1, g1, h2, g2, fun k hk => ⟨h4 k (by omega), ?_⟩⟩
      have hk' : k < xs.length := by omega
      rw [g4 k hk', List.getD, List.getElem?_eq_getElem hk']
      rfl
theorem inI_of {W : World} {aX : Option Addr} {lx : Nat} {xs : List Int} (hX : IsRow .i64 W aX lx xs) : InI xs := by
  rcases hX with ⟨_, rfl⟩ | ⟨_, _, _, _, _, _, g5⟩
  · intro n hn; cases hn
  · intro n hn; exact bounds_i64 (g5 n hn)

theorem walk (aS aT aX aY : Option Addr) (ls lt lx ly cs ct cx cy : Nat) (ss tt : List ByteArray) (xs ys : List Int) (w : World) (hm : MaxI w)
    (h1 : IsStrs w aS ls ss) (h2 : IsStrs w aT lt tt) (h3 : IsRow .i64 w aX lx xs) (h4 : IsRow .i64 w aY ly ys) (h5 : ∀ k, (ss.getD k ByteArray.empty).size ≤ 1048576) (h6 : ∀ k, (tt.getD k ByteArray.empty).size ≤ 1048576) :
    Calls Tryd.prog 7 #[.slice aS ls cs, .slice aT lt ct, .slice aX lx cx, .slice aY ly cy] w fun e w' => e = .returned (.bool true) ∧ Below w.heap.size w w' := by
  by_cases hab : 100 < min ls lx ∨ 100 < min lt ly
  · exact tupleRows_long aS aT aX aY ls lt lx ly cs ct cx cy (min ls lx) (min lt ly) w (by omega) (by omega) hab
  · exact tupleRows_main aS aT aX aY ls lt lx ly cs ct cx cy (min ls lx) (min lt ly) ss tt xs ys w hm (by omega) (by omega) (by omega) (by omega) (by omega) (by omega) (inRow_of h1 h3) (inRow_of h2 h4) h5 h6 (inI_of h3) (inI_of h4)

theorem laid_met (os : Os) : laidMet Tryd.prog Rows.tupleRowsUptoRow.laid ((laidWorld os).forCall (fun _ _ => 0) ⟨#[], #[.slice none 0 0, .slice none 0 0, .slice none 0 0, .slice none 0 0], []⟩).memory :=
  laidMet_of_run' 8 (by kernel_rfl) (by kernel_rfl)
theorem reads (os : Os) {H : Type} (enc : TypeId × Value → H) : ∃ places, DataW.whole enc Tryd.prog ((laidWorld os).forCall (fun _ _ => 0) ⟨#[], #[.slice none 0 0, .slice none 0 0, .slice none 0 0, .slice none 0 0], []⟩).memory Tryd.f7.params.toList Rows.tupleRowsSpec.vars false #[Value.slice none 0 0, .slice none 0 0, .slice none 0 0, .slice none 0 0].toList 8 = some ([.nil, .nil, .nil, .nil], [], places) :=
  ⟨[], by kernel_rfl⟩

set_option maxRecDepth 100000 in
theorem lifted (os : Os) (started : os.Started) (H : Type) (enc : TypeId × Value → H) (F : Stop.Interp) :
    ReturnsInHanded {} Tryd.checked os 7 .any ((Rows.OpenSpec.upto Rows.tupleRowsSpec).preRow enc Tryd.prog Tryd.f7 Rows.tupleRowsUptoRow.domain false Rows.tupleRowsUptoRow.laid) (((Rows.OpenSpec.upto Rows.tupleRowsSpec).at F).post enc Tryd.prog Tryd.f7 false true false false) := by
  obtain ⟨places, hx⟩ := reads os enc
  refine returnsInHanded_of_row (C := Tryd.checked) (s := Rows.OpenSpec.upto Rows.tupleRowsSpec) own started (by kernel_rfl) Tryd.func7
    (witness_row_at (enc := enc) (C := Tryd.checked) false (laidWorld os) #[.slice none 0 0, .slice none 0 0, .slice none 0 0, .slice none 0 0] rfl (by kernel_rfl) (by kernel_rfl) (by kernel_rfl)
      (OpenSpec.preRow_of_cond 8 hx (by kernel_rfl) (fun k hk => by cases hk; kernel_rfl) (by kernel_rfl) (laid_met os))) ?_
  intro W base args ds gs before hval0 hW _ hcond _ _ hsh _
  have hm : MaxI W := Tryd.laysM155.s1_3 W hsh
  have hk : Rows.uptoSmall H (ds ++ gs) = true := hcond _ rfl
  have hval : ∀ (j : Nat) t v, Tryd.f7.params[j]? = some t → args[j]? = some v → Value.okWide Tryd.prog W .any base t v := hval0
  have hW' := hW
  obtain ⟨p, q, hA0, hV, rfl, hfz, hnd⟩ := hW
  have hA : DataW.TrodAll enc Tryd.prog W 0 (fun _ => true) true Tryd.f7.params.toList args.toList ds p := hA0
  rw [Tryd.params7] at hA hval
  obtain ⟨v0, vs0, d0, ds0, p0, q0, hargs, rfl, rfl, h0, r0⟩ := trodAll_cons hA
  obtain ⟨v1, vs1, d1, ds1, p1, q1, rfl, rfl, rfl, h1, r1⟩ := trodAll_cons r0
  obtain ⟨v2, vs2, d2, ds2, p2, q2, rfl, rfl, rfl, h2, r2⟩ := trodAll_cons r1
  obtain ⟨v3, vs3, d3, ds3, p3, q3, rfl, rfl, rfl, h3, r3⟩ := trodAll_cons r2
  obtain ⟨rfl, rfl, rfl⟩ := trodAll_nil r3
  obtain rfl : args = #[v0, v1, v2, v3] := by cases args; simp_all
  obtain ⟨rfl, rfl⟩ := trodVars_none hV
  obtain ⟨a0, len0, cap0, rfl⟩ := okWide_slice Tryd.underlying45 (hval 0 45 v0 rfl rfl)
  obtain ⟨a1, len1, cap1, rfl⟩ := okWide_slice Tryd.underlying45 (hval 1 45 v1 rfl rfl)
  obtain ⟨a2, len2, cap2, rfl⟩ := okWide_slice Tryd.underlying22 (hval 2 22 v2 rfl rfl)
  obtain ⟨a3, len3, cap3, rfl⟩ := okWide_slice Tryd.underlying22 (hval 3 22 v3 rfl rfl)
  have lt0 : ∀ x ∈ p0, x.block < W.heap.size := by obtain ⟨m, hm⟩ := h0; exact DataW.trod_lt m _ _ _ hm
  have lt1 : ∀ x ∈ p1, x.block < W.heap.size := by obtain ⟨m, hm⟩ := h1; exact DataW.trod_lt m _ _ _ hm
  have lt2 : ∀ x ∈ p2, x.block < W.heap.size := by obtain ⟨m, hm⟩ := h2; exact DataW.trod_lt m _ _ _ hm
  have lt3 : ∀ x ∈ p3, x.block < W.heap.size := by obtain ⟨m, hm⟩ := h3; exact DataW.trod_lt m _ _ _ hm
  obtain ⟨s0, w0, b0⟩ := strs_of Tryd.underlying45 Tryd.underlying9 (by kernel_rfl) h0
  obtain ⟨s1, w1, b1⟩ := strs_of Tryd.underlying45 Tryd.underlying9 (by kernel_rfl) h1
  obtain ⟨⟨z2, w2⟩, _⟩ := row_of Tryd.underlying22 Tryd.underlying3 (by kernel_rfl) h2
  obtain ⟨⟨z3, w3⟩, _⟩ := row_of Tryd.underlying22 Tryd.underlying3 (by kernel_rfl) h3
  clear hA0 hval0
  have hbd := bound hk
  simp only [List.append_nil, Rows.uptoBulkAll] at hbd
  refine (walk a0 a1 a2 a3 len0 len1 len2 len3 cap0 cap1 cap2 cap3 s0 s1 z2 z3 W hm w0 w1 w2 w3 (fun k => by have := b0 k; omega) (fun k => by have := b1 k; omega)).mono fun e W' ⟨he, bel⟩ => ?_
  subst he
  exact ⟨_, rfl, _, _, _, [], _, [], hW', trodAll_mk1 (shut_bool Tryd.underlying4 _), (trodAll_cons_mk (Below.trod laidOut (by kernel_rfl) (of_decide_eq_true (by kernel_rfl)) h0 bel lt0) (trodAll_cons_mk (Below.trod laidOut (by kernel_rfl) (of_decide_eq_true (by kernel_rfl)) h1 bel lt1) (trodAll_cons_mk (Below.trod laidOut (by kernel_rfl) (of_decide_eq_true (by kernel_rfl)) h2 bel lt2) (trodAll_cons_mk (Below.trod laidOut (by kernel_rfl) (of_decide_eq_true (by kernel_rfl)) h3 bel lt3) trodAll_mk0)))), rfl, bel.frame _, fun h => by cases h⟩

theorem saidUpto : Rows.TupleRowsUptoSaid :=
  OpenClaim.holds_of_cond 7 Tryd.f7 rfl rfl rfl rfl rfl rfl rfl ⟨rfl, rfl, rfl, rfl, rfl⟩ rfl rfl rfl rfl rfl (by kernel_rfl) Tryd.func7 (by kernel_rfl)
    (of_decide_eq_true (by kernel_rfl)) (by unfold Func.isWrapper; first | (rw [if_pos (by decide +kernel)]; kernel_rfl) | (rw [if_neg (by decide +kernel)]; exact ⟨rfl, rfl⟩))
    (fun os started H enc _ F => by rw [OpenClaim.pre_eq_preRow]; exact lifted os started H enc F)

theorem plain (f : FuncId) (fn : Func) (hf : Tryd.pinned.checked.prog.funcNamed Rows.tupleRowsUptoRow.func = some f) (hfn : Tryd.pinned.checked.prog.funcs[f]? = some fn) :
    false = Tryd.pinned.checked.prog.looks [] ∧ ∀ (j : Nat) t, fn.params[j]? = some t → Tryd.pinned.checked.prog.wantsStandIn t = false := by
  obtain rfl : f = 7 := Option.some.inj ((show Tryd.prog.funcNamed Rows.tupleRowsUptoRow.func = some 7 by kernel_rfl).symm.trans hf) |>.symm
  obtain rfl : fn = Tryd.f7 := (Option.some.inj (Tryd.func7.symm.trans hfn)).symm
  refine ⟨by kernel_rfl, fun j t ht => ?_⟩
  rw [Tryd.params7] at ht
  have hmem := Array.mem_of_getElem? ht
  simp at hmem
  rcases hmem with rfl | rfl
  · exact (show Tryd.prog.wantsStandIn 45 = false by kernel_rfl)
  · exact (show Tryd.prog.wantsStandIn 22 = false by kernel_rfl)

/-- The card: of rows of bulk at most 1048576. -/
theorem cardUpto : Rows.TupleRowsUptoCardSaid :=
  Claim7.holds_tied_plain_at .later [] _ _ _ _ saidUpto (fun _ h => by cases h) (by kernel_rfl) (fun _ h => by cases h) tupleRowsUpto_row_tie rfl ⟨rfl, rfl⟩ (by kernel_rfl) rfl plain (by kernel_rfl)
end Go.Proofs.YtilbmbddocimkaaDoor.lawRows

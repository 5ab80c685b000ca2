/-
  The bytes of two numbers stand as the numbers do, those of two texts as the texts, whatever stands behind them: the statement, of texts of bulk at most 1048576 together; the library's listed variables start as its text lays them.
-/
import Derived.Test.YtilbmbddocimkaaDoorOrdW
import Derived.Test.YtilbmbddocimkaaDoorFrame
namespace Go.Proofs.YtilbmbddocimkaaDoor.lawOrder
open Go.ChangeShapes Go.WideShapes Go.ChangeAt Go.RowKit
open Go.ChangeMaps (open_string shut_string)
open frame Od

theorem add_data (l : List UInt8) (p : ByteArray) : ((⟨l.toArray⟩ : ByteArray) ++ p).data.toList = l ++ p.data.toList := by
  rw [ByteArray.data_append, Array.toList_append]
theorem beq_true {s t : ByteArray} (h : s = t) : (s.toList == t.toList) = true := by rw [h]; simp
theorem beq_false {s t : ByteArray} (h : s.data.toList ≠ t.data.toList) : (s.toList == t.toList) = false := by
  rw [ByteArray.toList_eq, ByteArray.toList_eq, beq_eq_false_iff_ne]
  exact h

theorem walk (a b : Int) (s t p q : ByteArray) (w : World) (hm : MaxI w) (ha : -9223372036854775808 ≤ a ∧ a ≤ 9223372036854775807) (hb : -9223372036854775808 ≤ b ∧ b ≤ 9223372036854775807)
    (hs : s.size ≤ 1048576) (ht : t.size ≤ 1048576) (hp : p.size ≤ 1048576) (hq : q.size ≤ 1048576) :
    Calls Tryd.prog 6 #[.int .i64 a, .int .i64 b, .string s, .string t, .string p, .string q] w fun e w' => e = .returned (.bool true) ∧ Below w.heap.size w w' := by
  have hN : a ≠ b → Dec (Pl.numB a) (Pl.numB b) (sg a b) := fun h => num_sg ha.1 ha.2 hb.1 hb.2 h
  have hD : s.data.toList ≠ t.data.toList → Dec (textB s.data.toList) (textB t.data.toList) (cp s.data.toList t.data.toList) := fun h => text_dec _ _ h
  rcases Int.lt_trichotomy a b with hab | hab | hab
  · have hsg : sg a b = -1 := by unfold sg; rw [if_pos hab]
    have hn := hN (by omega)
    rw [hsg] at hn
    by_cases hst : s.data.toList = t.data.toList
    · have hst' : s = t := WideShapes.bytes_inj hst
      subst hst'
      exact tupleOrder_lt1 a b s s p q 0 w hm ha hb hab (beq_true rfl) hs ht hp hq hn.here (cp_self _) (cp_self _) (by
        show _ = _
        rw [add_data, add_data]; exact hn _ _)
    · exact tupleOrder_lt0 a b s t p q _ w hm ha hb hab (beq_false hst) hs ht hp hq hn.here (hD hst).here rfl (by
        show _ = _
        rw [add_data, add_data]; exact hn _ _) (by
        show _ = _
        rw [add_data, add_data]; exact hD hst _ _)
  · subst hab
    by_cases hst : s.data.toList = t.data.toList
    · have hst' : s = t := WideShapes.bytes_inj hst
      subst hst'
      exact tupleOrder_eq1 a a s s p q 0 w hm ha hb (by omega) (by omega) (beq_true rfl) hs ht hp hq (cp_self _) (cp_self _) (cp_self _)
    · exact tupleOrder_eq0 a a s t p q _ w hm ha hb (by omega) (by omega) (beq_false hst) hs ht hp hq (cp_self _) (hD hst).here rfl (by
        show _ = _
        rw [add_data, add_data]; exact hD hst _ _)
  · have hsg : sg a b = 1 := by unfold sg; rw [if_neg (by omega), if_pos hab]
    have hn := hN (by omega)
    rw [hsg] at hn
    by_cases hst : s.data.toList = t.data.toList
    · have hst' : s = t := WideShapes.bytes_inj hst
      subst hst'
      exact tupleOrder_gt1 a b s s p q 0 w hm ha hb hab (beq_true rfl) hs ht hp hq hn.here (cp_self _) (cp_self _) (by
        show _ = _
        rw [add_data, add_data]; exact hn _ _)
    · exact tupleOrder_gt0 a b s t p q _ w hm ha hb hab (beq_false hst) hs ht hp hq hn.here (hD hst).here rfl (by
        show _ = _
        rw [add_data, add_data]; exact hn _ _) (by
        show _ = _
        rw [add_data, add_data]; exact hD hst _ _)

theorem laid_met (os : Os) : laidMet Tryd.prog Rows.tupleOrderUptoRow.laid ((laidWorld os).forCall (fun _ _ => 0) ⟨#[], #[.int .i64 0, .int .i64 0, .string ByteArray.empty, .string ByteArray.empty, .string ByteArray.empty, .string ByteArray.empty], []⟩).memory :=
  laidMet_of_run' 8 (by kernel_rfl) (by kernel_rfl)
theorem reads (os : Os) {H : Type} (enc : TypeId × Value → H) : ∃ places, DataW.whole enc Tryd.prog ((laidWorld os).forCall (fun _ _ => 0) ⟨#[], #[.int .i64 0, .int .i64 0, .string ByteArray.empty, .string ByteArray.empty, .string ByteArray.empty, .string ByteArray.empty], []⟩).memory Tryd.f6.params.toList Rows.tupleOrderSpec.vars false #[Value.int .i64 0, .int .i64 0, .string ByteArray.empty, .string ByteArray.empty, .string ByteArray.empty, .string ByteArray.empty].toList 8 = some ([.lit (.int .i64 0), .lit (.int .i64 0), .lit (.string []), .lit (.string []), .lit (.string []), .lit (.string [])], [], places) :=
  ⟨[], by kernel_rfl⟩

set_option maxRecDepth 100000 in
theorem lifted (os : Os) (started : os.Started) (H : Type) (enc : TypeId × Value → H) (F : Stop.Interp) :
    ReturnsInHanded {} Tryd.checked os 6 .any ((Rows.OpenSpec.upto Rows.tupleOrderSpec).preRow enc Tryd.prog Tryd.f6 Rows.tupleOrderUptoRow.domain false Rows.tupleOrderUptoRow.laid) (((Rows.OpenSpec.upto Rows.tupleOrderSpec).at F).post enc Tryd.prog Tryd.f6 false true false false) := by
  obtain ⟨places, hx⟩ := reads os enc
  refine returnsInHanded_of_row (C := Tryd.checked) (s := Rows.OpenSpec.upto Rows.tupleOrderSpec) own started (by kernel_rfl) Tryd.func6
    (witness_row_at (enc := enc) (C := Tryd.checked) false (laidWorld os) #[.int .i64 0, .int .i64 0, .string ByteArray.empty, .string ByteArray.empty, .string ByteArray.empty, .string ByteArray.empty] rfl (by kernel_rfl) (by kernel_rfl) (by kernel_rfl)
      (OpenSpec.preRow_of_cond 8 hx (by kernel_rfl) (fun k hk => by cases hk; kernel_rfl) (by kernel_rfl) (laid_met os))) ?_
  intro W base args ds gs before hval0 hW _ hcond _ _ hsh _
  have hm : MaxI W := Tryd.laysM155.s1_3 W hsh
  have hk : Rows.uptoSmall H (ds ++ gs) = true := hcond _ rfl
  have hval : ∀ (j : Nat) t v, Tryd.f6.params[j]? = some t → args[j]? = some v → Value.okWide Tryd.prog W .any base t v := hval0
  have hW' := hW
  obtain ⟨p, q, hA0, hV, rfl, hfz, hnd⟩ := hW
  have hA : DataW.TrodAll enc Tryd.prog W 0 (fun _ => true) true Tryd.f6.params.toList args.toList ds p := hA0
  rw [Tryd.params6] at hA hval
  obtain ⟨v0, vs0, d0, ds0, p0, q0, hargs, rfl, rfl, h0, r0⟩ := trodAll_cons hA
  obtain ⟨v1, vs1, d1, ds1, p1, q1, rfl, rfl, rfl, h1, r1⟩ := trodAll_cons r0
  obtain ⟨v2, vs2, d2, ds2, p2, q2, rfl, rfl, rfl, h2, r2⟩ := trodAll_cons r1
  obtain ⟨v3, vs3, d3, ds3, p3, q3, rfl, rfl, rfl, h3, r3⟩ := trodAll_cons r2
  obtain ⟨v4, vs4, d4, ds4, p4, q4, rfl, rfl, rfl, h4, r4⟩ := trodAll_cons r3
  obtain ⟨v5, vs5, d5, ds5, p5, q5, rfl, rfl, rfl, h5, r5⟩ := trodAll_cons r4
  obtain ⟨rfl, rfl, rfl⟩ := trodAll_nil r5
  obtain rfl : args = #[v0, v1, v2, v3, v4, v5] := by cases args; simp_all
  obtain ⟨rfl, rfl⟩ := trodVars_none hV
  obtain ⟨a, rfl, rfl, rfl, wa⟩ := open_int Tryd.underlying3 (hval 0 3 v0 rfl rfl) h0
  obtain ⟨b, rfl, rfl, rfl, wb⟩ := open_int Tryd.underlying3 (hval 1 3 v1 rfl rfl) h1
  obtain ⟨s2, rfl, rfl, rfl, w2⟩ := open_string Tryd.underlying9 (hval 2 9 v2 rfl rfl) h2
  obtain ⟨s3, rfl, rfl, rfl, w3⟩ := open_string Tryd.underlying9 (hval 3 9 v3 rfl rfl) h3
  obtain ⟨s4, rfl, rfl, rfl, w4⟩ := open_string Tryd.underlying9 (hval 4 9 v4 rfl rfl) h4
  obtain ⟨s5, rfl, rfl, rfl, w5⟩ := open_string Tryd.underlying9 (hval 5 9 v5 rfl rfl) h5
  clear hA0 hval0
  have hbd := bound hk
  simp only [List.append_nil, Rows.uptoBulkAll, string_bulk] at hbd
  refine (walk a b s2 s3 s4 s5 W hm (bounds_i64 wa) (bounds_i64 wb) (by omega) (by omega) (by omega) (by omega)).mono fun e W' ⟨he, bel⟩ => ?_
  subst he
  exact ⟨_, rfl, _, _, _, [], _, [], hW', trodAll_mk1 (shut_bool Tryd.underlying4 _), (trodAll_cons_mk (shut_int Tryd.underlying3 wa) (trodAll_cons_mk (shut_int Tryd.underlying3 wb) (trodAll_cons_mk (shut_string Tryd.underlying9 w2) (trodAll_cons_mk (shut_string Tryd.underlying9 w3) (trodAll_cons_mk (shut_string Tryd.underlying9 w4) (trodAll_cons_mk (shut_string Tryd.underlying9 w5) trodAll_mk0)))))), rfl, bel.frame _, fun h => by cases h⟩

theorem saidUpto : Rows.TupleOrderUptoSaid :=
  OpenClaim.holds_of_cond 6 Tryd.f6 rfl rfl rfl rfl rfl rfl rfl ⟨rfl, rfl, rfl, rfl, rfl⟩ rfl rfl rfl rfl rfl (by kernel_rfl) Tryd.func6 (by kernel_rfl)
    (of_decide_eq_true (by kernel_rfl)) (by unfold Func.isWrapper; first | (rw [if_pos (by decide +kernel)]; kernel_rfl) | (rw [if_neg (by decide +kernel)]; exact ⟨rfl, rfl⟩))
    (fun os started H enc _ F => by rw [OpenClaim.pre_eq_preRow]; exact lifted os started H enc F)

theorem plain (f : FuncId) (fn : Func) (hf : Tryd.pinned.checked.prog.funcNamed Rows.tupleOrderUptoRow.func = some f) (hfn : Tryd.pinned.checked.prog.funcs[f]? = some fn) :
    false = Tryd.pinned.checked.prog.looks [] ∧ ∀ (j : Nat) t, fn.params[j]? = some t → Tryd.pinned.checked.prog.wantsStandIn t = false := by
  obtain rfl : f = 6 := Option.some.inj ((show Tryd.prog.funcNamed Rows.tupleOrderUptoRow.func = some 6 by kernel_rfl).symm.trans hf) |>.symm
  obtain rfl : fn = Tryd.f6 := (Option.some.inj (Tryd.func6.symm.trans hfn)).symm
  refine ⟨by kernel_rfl, fun j t ht => ?_⟩
  rw [Tryd.params6] at ht
  have hmem := Array.mem_of_getElem? ht
  simp at hmem
  rcases hmem with rfl | rfl
  · exact (show Tryd.prog.wantsStandIn 3 = false by kernel_rfl)
  · exact (show Tryd.prog.wantsStandIn 9 = false by kernel_rfl)

/-- The card: of texts of bulk at most 1048576. -/
theorem cardUpto : Rows.TupleOrderUptoCardSaid :=
  Claim7.holds_tied_plain_at .later [] _ _ _ _ saidUpto (fun _ h => by cases h) (by kernel_rfl) (fun _ h => by cases h) tupleOrderUpto_row_tie rfl ⟨rfl, rfl⟩ (by kernel_rfl) rfl plain (by kernel_rfl)
end Go.Proofs.YtilbmbddocimkaaDoor.lawOrder

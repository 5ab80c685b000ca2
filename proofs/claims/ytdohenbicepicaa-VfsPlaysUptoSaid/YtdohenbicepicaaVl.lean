/-
  What the given disk's link answers: names, with another file for one.
-/
import Derived.Test.YtdohenbicepicaaVn
import Derived.Maps.AppendAt
namespace Go.Proofs.Ytdohenbicepicaa
open Go.RowKit

theorem Try.infoL : (Try.prog.info? 37).map (fun i => (i.zero, i.size, i.bytes)) = some (some (.agg #[.string ByteArray.empty, .int .i64 0]), 2, 24) := by kernel_rfl
/-- The slice v is the call's own, from block B on, and holds these names. -/
def OwnK (w : World) (B : Nat) (v : Value) (l : List Vf.Lk) : Prop := w.ownsRow B 37 2 v l.length (lksV l)
theorem OwnK.lks {w : World} {B : Nat} {v : Value} {l : List Vf.Lk} (h : OwnK w B v l) : LkS w v l := by
  rcases h.2 with ⟨rfl, h0⟩ | ⟨g, cap, cur, rfl, hg, hh, hnc, hcp, hcs, htake⟩
  · exact ⟨none, 0, by rw [h0], by omega, by omega, fun h => by omega⟩
  · have hown : w.ownsRow B 37 2 (.slice (some ⟨g, 0, none⟩) l.length cap) l.length (lksV l) := h
    refine ⟨_, cap, rfl, hnc, by unfold maxLen at hcp; omega, fun _ => ⟨g, rfl, (hown.lt g rfl).2, fun i hi => ?_⟩⟩
    have e : ∀ j u, (lksV l)[j]? = some u → w.cell? ⟨g, j, none⟩ = some u := fun j u hj => by
      have h := hown.cells (g := g) rfl j u hj
      rw [Addr.add_lit, Nat.zero_add] at h
      exact h
    exact ⟨e _ _ (lksV_name l i hi), e _ _ (lksV_n l i hi)⟩
theorem LkS.below {w w' : World} {B : Nat} {v : Value} {l : List Vf.Lk} (h : LkS w v l) (hb : Below B w w') (hB : w.heap.size ≤ B) : LkS w' v l := by
  obtain ⟨a, cap, h1, h2, h3, h4⟩ := h
  refine ⟨a, cap, h1, h2, h3, fun h0 => ?_⟩
  obtain ⟨g, h5, h6, h7⟩ := h4 h0
  exact ⟨g, h5, Nat.lt_of_lt_of_le h6 hb.size, fun i hi => ⟨(hb.cell (p := ⟨g, i * 2, none⟩) (Nat.lt_of_lt_of_le h6 hB)).trans (h7 i hi).1, (hb.cell (p := ⟨g, i * 2 + 1, none⟩) (Nat.lt_of_lt_of_le h6 hB)).trans (h7 i hi).2⟩⟩
theorem new_link (w : World) (s : ByteArray) (m : Int) : ∀ j u, [Value.string s, .int .i64 m][j]? = some u → (w.alloc (.cells #[.string s, .int .i64 m] 37)).cell? ((⟨w.heap.size, 0, none⟩ : Addr).add j) = some u := by
  intro j u hj
  match j, hj with
  | 0, hj => simp at hj; subst hj; simp [Addr.add]
  | 1, hj => simp at hj; subst hj; simp [Addr.add]
theorem one_link (s : ByteArray) (m : Int) : ∀ u ∈ [Value.string s, .int .i64 m], u.oneCell' = true := by
  intro u hu
  simp only [List.mem_cons, List.mem_nil_iff, or_false] at hu
  rcases hu with rfl | rfl <;> rfl
/-- Behind an append of one name. -/
theorem ownK_push {w wr w1 : World} {B : Nat} {v v' : Value} {l : List Vf.Lk} {x : Vf.Lk} {o : Obj} (hB : B ≤ wr.heap.size) (h : OwnK wr B v l) (hb : Below B w wr)
    (h1 : w1.ownsRow B 37 2 v' (l.length + 1) (lksV l ++ [.string x.name, .int .i64 (x.n : Int)])) (hg : (wr.alloc o).grownBy w1 v.ownBlock) :
    OwnK w1 B v' (l ++ [x]) ∧ Below B w w1 ∧ B ≤ w1.heap.size := by
  have hown : wr.ownsRow B 37 2 v l.length (lksV l) := h
  have hs : B ≤ w1.heap.size := by have := hg.size; simp at this; omega
  refine ⟨?_, (hb.alloc hB o).grown hg (by simp; omega) (fun j hj => (hown.lt j hj).1), hs⟩
  unfold OwnK
  rw [lksV_snoc] at h1
  simpa using h1
theorem linkGo_drop (s : ByteArray) (m : Nat) (d : Bool) (l : List Vf.Lk) (k : Nat) (h : k < l.length) :
    Vf.linkGo s m d (l.drop k) = if Vf.eqB l[k].name s then Vf.linkGo s m d (l.drop (k + 1)) else if !d && Vf.ltB s l[k].name then ⟨s, m⟩ :: l[k] :: Vf.linkGo s m true (l.drop (k + 1)) else l[k] :: Vf.linkGo s m d (l.drop (k + 1)) := by
  rw [List.drop_eq_getElem_cons h]
  rfl

set_option maxRecDepth 100000 in
set_option maxHeartbeats 2000000 in
theorem link_any (w : World) (v : Value) (l : List Vf.Lk) (s : ByteArray) (m : Nat) (hv : LkS w v l) (hn : l.length ≤ 1073741824) :
    Calls Try.prog 59 #[v, .string s, .int .i64 m] w fun e' w' => ∃ v', e' = .returned v' ∧ OwnK w' w.heap.size v' (Vf.link l s m) ∧ Below w.heap.size w w' := by
  obtain ⟨ii, hi, hz0, hz1, hz2⟩ := info_parts Try.infoL
  obtain ⟨a, cap, rfl, _, _, hv⟩ := hv
  obtain ⟨n, hnl⟩ : ∃ n, n = l.length := ⟨_, rfl⟩
  have HN := Lib.hid hnl
  have HV := Lib.hid hv
  rw [← hnl] at hn ⊢
  clear hnl hv
  have hd0 : ((m : Int) == 0) = (m == 0) := by
    rw [Bool.eq_iff_iff]
    simp
  go_enter Try.func59, Try.ntmps59
  go_wp2_with fail
  go_loopg [7, 8, 9] n (fun g ov dv iv wx => ∃ (k : Nat) (dn : Bool) (acc : List Vf.Lk), k ≤ n ∧ g = n - k ∧ iv = .int .i64 (k : Int) ∧ dv = .bool dn ∧ acc.length ≤ 2 * k ∧ Hid (Vf.link l s m = acc ++ Vf.linkGo s m dn (l.drop k)) ∧ OwnK wx w.heap.size ov acc ∧ Below w.heap.size w wx ∧ w.heap.size ≤ wx.heap.size)
  case atStart => exact ⟨0, m == 0, [], Nat.zero_le _, rfl, rfl, by first | rfl | rw [hd0] | simp, Nat.le_refl _, by show _ = _; rw [List.drop_zero]; rfl, World.ownsRow_nil _ _ _ _, Below.refl _ _, Nat.le_refl _⟩
  case round =>
    obtain ⟨k, dn, acc, hk, rfl, rfl, rfl, hacc, hf, hown, hbel, hBr⟩ := hrel
    have hown' : wr.ownsRow w.heap.size 37 2 u7 acc.length (lksV acc) := hown
    by_cases hkn : k < n
    · have i1 : (k : Int) < (n : Int) := by omega
      have kl : k < l.length := by rw [← HN.out]; exact hkn
      obtain ⟨g, rfl, hg, hc⟩ := HV.out (by omega)
      have HC : Hid (∀ wx, Below w.heap.size w wx → wx.cell? ⟨g, k * 2, none⟩ = some (.string l[k].name) ∧ wx.cell? ⟨g, k * 2 + 1, none⟩ = some (.int .i64 (l[k].n : Int))) := fun wx hb => ⟨(hb.cell (p := ⟨g, k * 2, none⟩) hg).trans (hc k kl).1, (hb.cell (p := ⟨g, k * 2 + 1, none⟩) hg).trans (hc k kl).2⟩
      clear hc
      obtain ⟨c1, c2⟩ := HC.out wr hbel
      have hd := linkGo_drop s m dn l k kl
      by_cases he : Vf.eqB l[k].name s = true
      · have he' := eqB_true he
        have hst : Hid (Vf.link l s m = acc ++ Vf.linkGo s m dn (l.drop (k + 1))) := by show _ = _; rw [hf.out, hd, if_pos he]
        have HO := Lib.hid hown
        have HB := Lib.hid hbel
        clear hd hf he hown hbel hown'
        generalize l[k].name = nm at *
        generalize l[k].n = nn at *
        go_wp2_with fail
        go_roundg (n - (k + 1))
        case rel => exact ⟨k + 1, dn, acc, by omega, rfl, by go_num, rfl, by omega, hst, HO.out, HB.out, hBr⟩
        case measure => omega
      · have he' := eqB_false (by simpa using he)
        rw [if_neg he] at hd
        by_cases hlt : (!dn && Vf.ltB s l[k].name) = true
        · rw [if_pos hlt] at hd
          have hst : Hid (Vf.link l s m = ((acc ++ [⟨s, m⟩]) ++ [l[k]]) ++ Vf.linkGo s m true (l.drop (k + 1))) := by show _ = _; rw [hf.out, hd, List.append_assoc, List.append_assoc]; rfl
          obtain rfl : dn = false := by cases dn <;> simp at hlt ⊢
          have hl2 : Op.bytesLess s.toList l[k].name.toList = true := by
            have h : Vf.ltB s l[k].name = true := by simpa using hlt
            exact h
          have HO := Lib.hid hown
          have HB := Lib.hid hbel
          clear hd hf he hlt hown hbel
          generalize hx : l[k] = x at *
          have HX := Lib.hid hx
          clear hx
          obtain ⟨nm, nn⟩ := x
          simp only at c1 c2 he' hl2
          go_wp2_with (at_builtin; refine wpList_append_own _ rfl _ _ 33 rfl w.heap.size 37 ii _ 2 24 Try.underlying33 hi hz0 hz1 hz2 rfl (by decide) _ _ _ rfl (hown'.alloc _) ⟨wr.heap.size, 0, none⟩ 1 1 [.string s, .int .i64 (m : Int)] rfl rfl (new_link wr s m) (one_link s m) (by unfold maxLen; omega) (by omega) (by simp; omega) ?_)
          intro v1 w2 hown1 hgrow1 _
          have R := ownK_push (x := ⟨s, m⟩) hBr HO.out HB.out hown1 hgrow1
          have HR := Lib.hid R
          have hBr2 := R.2.2
          have hown2 : w2.ownsRow w.heap.size 37 2 v1 (acc ++ [(⟨s, m⟩ : Vf.Lk)]).length (lksV (acc ++ [⟨s, m⟩])) := R.1
          obtain ⟨k1, k2⟩ := HC.out w2 R.2.1
          have hal : (acc ++ [(⟨s, m⟩ : Vf.Lk)]).length = acc.length + 1 := by simp
          clear hown1 hgrow1 R hown' HO HB
          generalize acc ++ [(⟨s, m⟩ : Vf.Lk)] = acc2 at *
          go_wp2_with (at_builtin; refine wpList_append_own _ rfl _ _ 33 rfl w.heap.size 37 ii _ 2 24 Try.underlying33 hi hz0 hz1 hz2 rfl (by decide) _ _ _ rfl (hown2.alloc _) ⟨w2.heap.size, 0, none⟩ 1 1 [.string nm, .int .i64 (nn : Int)] rfl rfl (new_link w2 nm nn) (one_link nm nn) (by unfold maxLen; omega) (by omega) (by simp; omega) ?_)
          intro v2 w3 hown3 hgrow3 _
          have R2 := ownK_push (x := ⟨nm, nn⟩) hBr2 HR.out.1 HR.out.2.1 (by rw [hal]; exact hown3) hgrow3
          have HR2 := Lib.hid R2
          have hal2 : (acc2 ++ [(⟨nm, nn⟩ : Vf.Lk)]).length = acc2.length + 1 := by simp
          clear hown3 hgrow3 R2 HR hown2
          go_wp2_with fail
          go_roundg (n - (k + 1))
          case rel => exact ⟨k + 1, true, _, by omega, rfl, by go_num, rfl, by omega, hst, HR2.out.1, HR2.out.2.1, HR2.out.2.2⟩
          case measure => omega
        · rw [if_neg hlt] at hd
          have hst : Hid (Vf.link l s m = (acc ++ [l[k]]) ++ Vf.linkGo s m dn (l.drop (k + 1))) := by show _ = _; rw [hf.out, hd, List.append_assoc]; rfl
          have hdl : (dn = true) ∨ (dn = false ∧ Op.bytesLess s.toList l[k].name.toList = false) := by
            cases dn with
            | true => exact .inl rfl
            | false =>
              have h : Vf.ltB s l[k].name = false := by simpa using hlt
              exact .inr ⟨rfl, h⟩
          have HO := Lib.hid hown
          have HB := Lib.hid hbel
          clear hd hf he hlt hown hbel
          generalize hx : l[k] = x at *
          clear hx
          obtain ⟨nm, nn⟩ := x
          simp only at c1 c2 he' hdl
          rcases hdl with rfl | ⟨rfl, hl2⟩
          · go_wp2_with (at_builtin; refine wpList_append_own _ rfl _ _ 33 rfl w.heap.size 37 ii _ 2 24 Try.underlying33 hi hz0 hz1 hz2 rfl (by decide) _ _ _ rfl (hown'.alloc _) ⟨wr.heap.size, 0, none⟩ 1 1 [.string nm, .int .i64 (nn : Int)] rfl rfl (new_link wr nm nn) (one_link nm nn) (by unfold maxLen; omega) (by omega) (by simp; omega) ?_)
            intro v1 w2 hown1 hgrow1 _
            have R := ownK_push (x := ⟨nm, nn⟩) hBr HO.out HB.out hown1 hgrow1
            have HR := Lib.hid R
            have hal : (acc ++ [(⟨nm, nn⟩ : Vf.Lk)]).length = acc.length + 1 := by simp
            clear hown1 hgrow1 R hown' HO HB
            go_wp2_with fail
            go_roundg (n - (k + 1))
            case rel => exact ⟨k + 1, true, _, by omega, rfl, by go_num, rfl, by omega, hst, HR.out.1, HR.out.2.1, HR.out.2.2⟩
            case measure => omega
          · go_wp2_with (at_builtin; refine wpList_append_own _ rfl _ _ 33 rfl w.heap.size 37 ii _ 2 24 Try.underlying33 hi hz0 hz1 hz2 rfl (by decide) _ _ _ rfl (hown'.alloc _) ⟨wr.heap.size, 0, none⟩ 1 1 [.string nm, .int .i64 (nn : Int)] rfl rfl (new_link wr nm nn) (one_link nm nn) (by unfold maxLen; omega) (by omega) (by simp; omega) ?_)
            intro v1 w2 hown1 hgrow1 _
            have R := ownK_push (x := ⟨nm, nn⟩) hBr HO.out HB.out hown1 hgrow1
            have HR := Lib.hid R
            have hal : (acc ++ [(⟨nm, nn⟩ : Vf.Lk)]).length = acc.length + 1 := by simp
            clear hown1 hgrow1 R hown' HO HB
            go_wp2_with fail
            go_roundg (n - (k + 1))
            case rel => exact ⟨k + 1, false, _, by omega, rfl, by go_num, rfl, by omega, hst, HR.out.1, HR.out.2.1, HR.out.2.2⟩
            case measure => omega
    · obtain rfl : k = n := by omega
      have hdl : l.drop k = [] := List.drop_of_length_le (by rw [← HN.out]; exact Nat.le_refl _)
      cases dn with
      | true =>
        have hfin : Hid (Vf.link l s m = acc) := by
          show _ = _
          rw [hf.out, hdl]
          simp [Vf.linkGo]
        have HO := Lib.hid hown
        have HB := Lib.hid hbel
        clear hf hdl hown hbel hown'
        go_wp2_with fail
        go_ret
        exact ⟨_, rfl, by rw [hfin.out]; exact HO.out, HB.out⟩
      | false =>
        have hfin : Hid (Vf.link l s m = acc ++ [⟨s, m⟩]) := by
          show _ = _
          rw [hf.out, hdl]
          simp [Vf.linkGo]
        have HO := Lib.hid hown
        have HB := Lib.hid hbel
        clear hf hdl hown hbel
        go_wp2_with (at_builtin; refine wpList_append_own _ rfl _ _ 33 rfl w.heap.size 37 ii _ 2 24 Try.underlying33 hi hz0 hz1 hz2 rfl (by decide) _ _ _ rfl (hown'.alloc _) ⟨wr.heap.size, 0, none⟩ 1 1 [.string s, .int .i64 (m : Int)] rfl rfl (new_link wr s m) (one_link s m) (by unfold maxLen; omega) (by omega) (by simp; omega) ?_)
        intro v1 w2 hown1 hgrow1 _
        have R := ownK_push (x := ⟨s, m⟩) hBr HO.out HB.out hown1 hgrow1
        have HR := Lib.hid R
        clear hown1 hgrow1 R hown' HO HB
        go_wp2_with fail
        go_ret
        exact ⟨_, rfl, by rw [hfin.out]; exact HR.out.1, HR.out.2.1⟩
end Go.Proofs.Ytdohenbicepicaa

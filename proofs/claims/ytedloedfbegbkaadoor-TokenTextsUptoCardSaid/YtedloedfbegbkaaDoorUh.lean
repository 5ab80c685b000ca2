/-
  The document's own Decode: the characters of all bytes, or the refusal.
-/
import Derived.Test.YtedloedfbegbkaaDoorUg
import Derived.Deep.RegionHeld3
namespace Go.Proofs.YtedloedfbegbkaaDoor
open Go.RowKit

namespace Ut
open Go.Lib
theorem missed_bad (l : List UInt8) (n : Nat) (hne : l ≠ []) (hn : n = 5 ∨ l.length < n) (hm : ∀ m, 1 ≤ m → m < n → hit l m = false) : Bad l := by
  by_cases hb : Bad l
  · exact hb
  · exfalso
    have h1 := decodeL_width l
    have h2 := width_four l
    have h3 := decodeL_le l hne
    have h4 := (hit_iff l (decodeL l).2 h3).2 ⟨hne, hb, rfl⟩
    rw [hm _ h1 (by omega)] at h4
    cases h4
end Ut
theorem toList_mk (l : List UInt8) : (⟨l.toArray⟩ : ByteArray).toList = l := by rw [ByteArray.toList_eq]
theorem eq_take (s : ByteArray) (k n : Nat) (l : List UInt8) : ((⟨l.toArray⟩ : ByteArray).toList == (s.extract k (k + n)).toList) = decide (l = (s.data.toList.drop k).take n) := by
  rw [cut_mk, toList_mk, toList_mk, Bool.eq_iff_iff, beq_iff_eq, decide_eq_true_iff]

theorem wrap_sum (a b : Nat) (h : a + b ≤ 9223372036854775807) : wrap64 ((a : Int) + (b : Int)) = (a : Int) + (b : Int) := IntWalk.wrap64_in _ (by omega)
theorem wrap_sum' (a b : Nat) (h : a + b ≤ 9223372036854775807) : IntKind.i64.wrap ((a : Int) + (b : Int)) = (a : Int) + (b : Int) := (IntWalk.i64_left _).trans (wrap_sum a b h)
theorem keepI {w w3 w4 : World} {v : Value} {acc : List Int} (hb : Below w3.heap.size w3 w4) (h : OwnI w3 w.heap.size v acc ∧ Below w.heap.size w w3) : OwnI w4 w.heap.size v acc ∧ Below w.heap.size w w4 :=
  ⟨h.1.keep hb (Nat.le_refl _), h.2.trans (hb.mono h.2.size)⟩

set_option maxRecDepth 100000 in
set_option maxHeartbeats 4000000 in
theorem decodeR_any (w : World) (s : ByteArray) (hs : s.size ≤ 17592186044415) :
    Calls Tryd.prog 19 #[.string s] w (DecPost w s.data.toList) := by
  have hsl : Hid (s.data.toList.length = s.size) := by show _ = _; simp
  go_enter Tryd.func19, Tryd.ntmps19
  go_wp2_with fail
  go_loopg [4, 5] s.size (fun g v p wx => ∃ (pos : Nat) (acc : List Int), g = s.size - pos ∧ pos ≤ s.size ∧ acc.length ≤ pos ∧ p = .int .i64 pos ∧ OwnI wx w.heap.size v acc ∧ Below w.heap.size w wx ∧
    Hid (acc ++ Ut.dec (s.data.toList.drop pos) = Ut.dec s.data.toList) ∧ Hid (Lib.validD (s.data.toList.drop pos) = Lib.validD s.data.toList))
  case atStart => exact ⟨0, [], rfl, Nat.zero_le _, Nat.le_refl _, rfl, World.ownsRow_nil _ _ _ _, Below.refl _ _, rfl, rfl⟩
  case round =>
    obtain ⟨pos, acc, rfl, hp, hal, rfl, hown, hbel, hdec, hvd⟩ := hrel
    obtain ⟨ad, cp, rfl, _⟩ := ownI_cells hown
    by_cases hps : pos < s.size
    · have i1 : (pos : Int) < (s.size : Int) := by omega
      have hne : Hid (s.data.toList.drop pos ≠ []) := by
        show _ ≠ _
        intro h
        have := congrArg List.length h
        rw [List.length_drop, hsl.out] at this
        simp at this
        omega
      have HO := Lib.hid hown
      have HB := Lib.hid hbel
      clear hown hbel
      go_wp2_with fail
      go_loopg [4, 6] 4 (fun g v p wx => ∃ n : Nat, g = 5 - n ∧ 1 ≤ n ∧ n ≤ 5 ∧ p = .int .i64 n ∧ v = .slice ad acc.length cp ∧ OwnI wx w.heap.size v acc ∧ Below w.heap.size w wx ∧ Hid (∀ m, 1 ≤ m → m < n → Ut.hit (s.data.toList.drop pos) m = false))
      case atStart => exact ⟨1, rfl, Nat.le_refl _, by omega, rfl, rfl, HO.out, HB.out, fun m h1 h2 => by omega⟩
      case round =>
        obtain ⟨n, rfl, hn1, hn5, rfl, rfl, hown, hbel, hmiss⟩ := hrel
        by_cases hn4 : n ≤ 4
        · by_cases hend : pos + n ≤ s.size
          · have i2 : (n : Int) ≤ 4 := by omega
            have i3 : (pos : Int) + (n : Int) ≤ (s.size : Int) := by omega
            have i4 : (0 : Int) ≤ (pos : Int) := by omega
            have i5 : (pos : Int) ≤ (pos : Int) + (n : Int) := by omega
            have i6 : wrap64 ((pos : Int) + (n : Int)) = (pos : Int) + (n : Int) := wrap_sum pos n (by omega)
            have i7 : IntKind.i64.wrap ((pos : Int) + (n : Int)) = (pos : Int) + (n : Int) := wrap_sum' pos n (by omega)
            have i8 : ((pos : Int) + (n : Int)).toNat = pos + n := by omega
            have i9 : (0 : Int) ≤ (pos : Int) + (n : Int) := by omega
            have htl : (s.extract pos (pos + n)).data.toList = (s.data.toList.drop pos).take n := by rw [Lib.extract_data, Nat.add_sub_cancel_left]
            have hts : (s.extract pos (pos + n)).size = n := by rw [ByteArray.size_extract]; omega
            have hg := guess_any wr (s.extract pos (pos + n)) (by omega) (by omega)
            have hgb := Ut.guess_bound (s.extract pos (pos + n)).data.toList
            have hh : Ut.hit (s.data.toList.drop pos) n = (Ut.whole (Ut.guess (s.extract pos (pos + n)).data.toList) && decide (Lib.encodeRune (Ut.guess (s.extract pos (pos + n)).data.toList) = (s.data.toList.drop pos).take n)) := by rw [htl]; rfl
            have hgu : Ut.hit (s.data.toList.drop pos) n = true → n = (Lib.decodeL (s.data.toList.drop pos)).2 ∧ Ut.guess (s.extract pos (pos + n)).data.toList = ((Lib.decodeL (s.data.toList.drop pos)).1 : Int) ∧ ¬ Ut.Bad (s.data.toList.drop pos) := by
              intro h
              obtain ⟨h1, h2, h3⟩ := (Ut.hit_iff _ n (by rw [List.length_drop, hsl.out]; omega)).1 h
              refine ⟨h3, ?_, h2⟩
              rw [htl, h3]
              exact Ut.hit_guess _ h1 h2
            have heq := eq_take s pos n (Lib.encodeRune (Ut.guess (s.extract pos (pos + n)).data.toList))
            have HG := Lib.hid hg
            have HH := Lib.hid hh
            have HGU := Lib.hid hgu
            have HE := Lib.hid heq
            have HX := Lib.hid (And.intro hown hbel)
            clear hg hh hgu heq htl hown hbel
            generalize Ut.guess (s.extract pos (pos + n)).data.toList = c at *
            go_wp2_with fail
            refine HG.out.mono ?_
            rintro e w2 ⟨rfl, hb2⟩
            have H2 : Hid (OwnI w2 w.heap.size (.slice ad acc.length cp) acc ∧ Below w.heap.size w w2) := ⟨HX.out.1.keep hb2 (Nat.le_refl _), HX.out.2.trans (hb2.mono HX.out.2.size)⟩
            clear hb2 HX
            go_wp2_with fail
            have hcw : Hid (∀ W, Calls Tryd.prog 30 #[.int .i64 c] W fun e w' => e = .returned (.bool (Ut.whole c)) ∧ w' = W) := fun W => (wholeR_any c W).mono fun e w' h => ⟨h.1, h.2.symm⟩
            have hS : OwnI w2.drew w.heap.size (.slice ad acc.length cp) acc ∧ Below w.heap.size w w2.drew := ⟨H2.out.1, H2.out.2.drew⟩
            have HS := Lib.hid hS
            clear hS
            cases hwc : Ut.whole c
            · have hmiss2 : Hid (∀ m, 1 ≤ m → m < n + 1 → Ut.hit (s.data.toList.drop pos) m = false) := by
                show ∀ m, _
                intro m h1 h2
                by_cases h : m = n
                · rw [h, HH.out, hwc]; rfl
                · exact hmiss.out m h1 (by omega)
              rw [hwc] at hcw
              clear hmiss HH HGU HE
              go_quiet (first
                | (go_at_call 30; refine Calls.quiet_of_same (hcw.out _)))
              have H3 : Hid (OwnI (w2.drewN nq) w.heap.size (.slice ad acc.length cp) acc ∧ Below w.heap.size w (w2.drewN nq)) := ⟨H2.out.1, belowN H2.out.2 nq⟩
              generalize w2.drewN nq = w3 at *
              go_wp2_with fail
              go_roundg (4 - n)
              case rel => exact ⟨n + 1, by omega, by omega, by omega, by go_num, rfl, H3.out.1, H3.out.2, hmiss2⟩
              case measure => omega
            · have ho := Lib.hid (fun W => one_any c hwc W)
              rw [hwc, Bool.true_and] at HH
              rw [hwc] at hcw
              have HTe : Hid (Hid (∀ _ : True, (⟨(Lib.encodeRune c).toArray⟩ : ByteArray).toList = (⟨(Lib.encodeRune c).toArray⟩ : ByteArray).toList)) := fun _ => rfl
              rw [← HH.out] at HE
              clear HTe
              generalize (⟨(Lib.encodeRune c).toArray⟩ : ByteArray) = T at *
              generalize hhit : Ut.hit (s.data.toList.drop pos) n = b at *
              have heq := HE.out
              cases b
              · have hmiss2 : Hid (∀ m, 1 ≤ m → m < n + 1 → Ut.hit (s.data.toList.drop pos) m = false) := by
                  show ∀ m, _
                  intro m h1 h2
                  by_cases h : m = n
                  · rw [h, hhit]
                  · exact hmiss.out m h1 (by omega)
                clear hmiss HH HGU HE
                go_region_held3 (fun wx => OwnI wx w.heap.size (.slice ad acc.length cp) acc ∧ Below w.heap.size w wx) (first | exact HS.out | assumption | exact keepI (by assumption) (by assumption)) (first
                  | (go_at_call 30; refine (hcw.out _).mono ?_; rintro e1 w3 ⟨rfl, rfl⟩)
                  | (go_at_call 31; refine (ho.out _).mono ?_; rintro e1 w4 ⟨rfl, hb4⟩))
                go_wp2_with fail
                have H4 := Lib.hid (keepI hb4 HS.out)
                clear hb4
                go_roundg (4 - n)
                case rel => exact ⟨n + 1, by omega, by omega, by omega, by go_num, rfl, H4.out.1, H4.out.2, hmiss2⟩
                case measure => omega
              · obtain ⟨hwd, hgc, hgood⟩ := HGU.out rfl
                have hne' := hne.out
                have hvs := Ut.validD_good _ hne' hgood
                have hds := Ut.dec_step _ hne'
                rw [List.drop_drop, ← hwd] at hvs hds
                rw [← hgc] at hds
                have hv2 : Hid (Lib.validD (s.data.toList.drop (pos + n)) = Lib.validD s.data.toList) := by show _ = _; rw [← hvs]; exact hvd.out
                have hd2 : Hid ((acc ++ [c]) ++ Ut.dec (s.data.toList.drop (pos + n)) = Ut.dec s.data.toList) := by
                  show _ = _
                  rw [← hdec.out, hds, List.append_assoc]
                  rfl
                have k1 : ¬ (4 : Int) < (n : Int) := by omega
                have k2 : ¬ (s.size : Int) < (pos : Int) + (n : Int) := by omega
                clear hmiss HH HGU HE hwd hgc hgood hne' hvs hds hdec hvd hgb
                go_region_held3 (fun wx => OwnI wx w.heap.size (.slice ad acc.length cp) acc ∧ Below w.heap.size w wx) (first | exact HS.out | assumption | exact keepI (by assumption) (by assumption)) (first
                  | (go_at_call 30; refine (hcw.out _).mono ?_; rintro e1 w3 ⟨rfl, rfl⟩)
                  | (go_at_call 31; refine (ho.out _).mono ?_; rintro e1 w4 ⟨rfl, hb4⟩))
                have H4 := Lib.hid (keepI hb4 HS.out)
                have HX4 := Lib.hid H4.out.2.size
                clear hb4
                go_wp2_with (at_builtin; go_loud ((refine wpList_pushI rfl _ _ rfl w.heap.size HX4.out (.slice ad acc.length cp) acc c rfl H4.out.1 rfl (by omega) ?_; intro v5 w5 hown5 hb5 _)))
                have H5 := Lib.hid (And.intro hown5 (H4.out.2.trans hb5))
                clear hown5 hb5
                go_wp2_with fail
                go_roundg (s.size - (pos + n))
                case rel => exact ⟨pos + n, acc ++ [c], rfl, by omega, by simp; omega, by go_num, H5.out.1, H5.out.2, hd2, hv2⟩
                case measure => omega
          · have i2 : (n : Int) ≤ 4 := by omega
            have i3 : ¬ (pos : Int) + (n : Int) ≤ (s.size : Int) := by omega
            have k1 : ¬ (4 : Int) < (n : Int) := by omega
            have k2 : (s.size : Int) < (pos : Int) + (n : Int) := by omega
            have hbad := Ut.missed_bad _ n hne.out (.inr (by rw [List.length_drop, hsl.out]; omega)) hmiss.out
            have hno := Ut.validD_bad _ hne.out hbad
            rw [hvd.out] at hno
            have hf1 := Lib.hid (Ut.decS_no hno)
            have hf2 := Lib.hid (Ut.decE_no hno)
            have HX := Lib.hid hbel
            clear hbad hno hmiss hdec hvd hown hbel
            go_wp2_with fail
            go_ret2
            exact ⟨_, ret_vi (by rw [hf2.out]), by rw [hf1.out]; exact World.ownsRow_nil _ _ _ _, HX.out⟩
        · have i2 : ¬ (n : Int) ≤ 4 := by omega
          have k1 : (4 : Int) < (n : Int) := by omega
          have hbad := Ut.missed_bad _ n hne.out (.inl (by omega)) hmiss.out
          have hno := Ut.validD_bad _ hne.out hbad
          rw [hvd.out] at hno
          have hf1 := Lib.hid (Ut.decS_no hno)
          have hf2 := Lib.hid (Ut.decE_no hno)
          have HX := Lib.hid hbel
          clear hbad hno hmiss hdec hvd hown hbel
          go_wp2_with fail
          go_ret2
          exact ⟨_, ret_vi (by rw [hf2.out]), by rw [hf1.out]; exact World.ownsRow_nil _ _ _ _, HX.out⟩
    · have i1 : ¬ (pos : Int) < (s.size : Int) := by omega
      have hnil : s.data.toList.drop pos = [] := drop_all s pos (by omega)
      have hyes : Lib.validD s.data.toList = true := by rw [← hvd.out, hnil]; rfl
      have hacc : acc = Ut.dec s.data.toList := by rw [← hdec.out, hnil, Ut.dec_nil, List.append_nil]
      have hf1 := Lib.hid ((Ut.decS_yes hyes).trans hacc.symm)
      have hf2 := Lib.hid (Ut.decE_yes hyes)
      have HX := Lib.hid (And.intro hown hbel)
      clear hnil hyes hacc hdec hvd hown hbel
      go_wp2_with fail
      go_ret2
      exact ⟨_, ret_vi (by rw [hf2.out]), by rw [hf1.out]; exact HX.out.1, HX.out.2⟩
end Go.Proofs.YtedloedfbegbkaaDoor

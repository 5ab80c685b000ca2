/-
  What the document's own Tokens answers: a character begins a term, if it is a letter and the one ahead of it is none.
-/
import Derived.Test.YtedloedfbegbkaaDoorTo
import Derived.Test.YtedloedfbegbkaaDoorUh
namespace Go.Proofs.YtedloedfbegbkaaDoor
open Go.RowKit

namespace Ut
/-- A letter stands ahead of place i. -/
def prev (L : List Int) : Nat → Bool
  | 0 => false
  | i + 1 => letter (L.getD i 0)
theorem prev_succ (L : List Int) (i : Nat) (h : i < L.length) : prev L (i + 1) = letter L[i] := by
  show letter (L.getD i 0) = _
  rw [List.getD_eq_getElem?_getD, List.getElem?_eq_getElem h]
  rfl
/-- The terms from place i on. -/
def rest (L : List Int) (i : Nat) : List (List UInt8) := (rows (prev L i) (L.drop i)).map term
theorem rest_zero (L : List Int) : rest L 0 = terms L := by
  unfold rest terms
  rw [List.drop_zero]
  rfl
theorem rest_end (L : List Int) (i : Nat) (h : L.length ≤ i) : rest L i = [] := by
  unfold rest
  rw [List.drop_of_length_le h]
  rfl
theorem rest_skip (L : List Int) (i : Nat) (h : i < L.length) (hs : ¬ (letter L[i] = true ∧ prev L i = false)) : rest L i = rest L (i + 1) := by
  unfold rest
  rw [rows_at L i h, if_neg hs, prev_succ L i h]
theorem rest_take (L : List Int) (i : Nat) (h : i < L.length) (hs : letter L[i] = true ∧ prev L i = false) : rest L i = term ((L.drop i).take (ahead (L.drop i))) :: rest L (i + 1) := by
  unfold rest
  rw [rows_at L i h, if_pos hs, prev_succ L i h, hs.1, take_ahead]
  rfl
theorem term_step (L : List Int) (i k : Nat) (hik : i ≤ k) (h : k < L.length) : term ((L.drop i).take (k + 1 - i)) = term ((L.drop i).take (k - i)) ++ Lib.encodeRune (fold L[k]) := by
  have e : k + 1 - i = (k - i) + 1 := by omega
  have hl : k - i < (L.drop i).length := by rw [List.length_drop]; omega
  rw [e, List.take_succ_eq_append_getElem hl]
  unfold term
  rw [List.map_append, enc_append]
  congr 1
  have e2 : (L.drop i)[k - i] = L[k] := by
    rw [List.getElem_drop]
    congr 1
    omega
  rw [e2]
  show enc [fold L[k]] = _
  simp [enc]
end Ut

theorem one_enc (c : Int) (h : Ut.letter c = true) (W : World) : Calls Tryd.prog 21 #[.slice (some ⟨W.heap.size, 0, none⟩) 1 1] (W.alloc (.cells #[.int .i64 (Ut.fold c)] 3)) fun e w' => e = .returned (.tuple #[.string ⟨(Lib.encodeRune (Ut.fold c)).toArray⟩, .int .i64 0]) ∧ Below W.heap.size W w' := by
  have hw : Ut.allW [Ut.fold c] = true := by
    show (Ut.whole (Ut.fold c) && true) = true
    rw [Ut.whole_fold c (Ut.letter_whole c h).1]
    rfl
  have hh := encodeR_any (W.alloc (.cells (intsV [Ut.fold c]).toArray 3)) (.slice (some ⟨W.heap.size, 0, none⟩) 1 1) [Ut.fold c] (ints_lit W [Ut.fold c] (by simp)) (by simp)
  unfold EncPost at hh
  rw [Ut.encS_yes hw, Ut.encE_yes hw, show Ut.enc [Ut.fold c] = Lib.encodeRune (Ut.fold c) from by simp [Ut.enc]] at hh
  exact hh.mono fun e w' ⟨h1, h2⟩ => ⟨h1, ((Below.refl W.heap.size W).alloc (Nat.le_refl _) _).trans (h2.mono (by simp))⟩

set_option maxRecDepth 100000 in
set_option maxHeartbeats 8000000 in
theorem tokensR_any (w : World) (s : ByteArray) : Calls Tryd.prog 7 #[.string s] w (TokPost w s.data.toList) := by
  have hsl : s.data.toList.length = s.size := by simp
  by_cases hbig : 4096 < s.size
  · have i1 : (4096 : Int) < (s.size : Int) := by omega
    have hE := Ut.tokE_long (s := s.data.toList) (by omega)
    have hS := Lib.hid (Ut.tokS_far hE (by omega))
    have HE := Lib.hid hE
    clear hE hsl
    go_enter Tryd.func7, Tryd.ntmps7
    go_wp2_with fail
    go_ret2
    exact ⟨_, ret_vi (by rw [HE.out]), by rw [hS.out]; exact ownT_nil _ _, Below.refl _ _⟩
  · have i1 : ¬ (4096 : Int) < (s.size : Int) := by omega
    have hd := decodeR_any w s (by omega)
    unfold DecPost at hd
    cases hv : Lib.validD s.data.toList
    · have hE := Ut.tokE_bad (s := s.data.toList) (by omega) hv
      have hS := Lib.hid (Ut.tokS_far hE (by omega))
      have HE := Lib.hid hE
      rw [Ut.decE_no hv] at hd
      have HD := Lib.hid hd
      clear hE hsl hd hv
      go_enter Tryd.func7, Tryd.ntmps7
      go_wp2_with fail
      refine HD.out.mono ?_
      rintro e w1 ⟨v, rfl, _, hb⟩
      have HB := Lib.hid hb
      clear hb
      go_wp2_with fail
      go_ret2
      exact ⟨_, ret_vi (by rw [HE.out]), by rw [hS.out]; exact ownT_nil _ _, HB.out⟩
    · rw [Ut.decE_yes hv, Ut.decS_yes hv] at hd
      have HD := Lib.hid hd
      have HV := Lib.hid hv
      have hln := Ut.dec_length s.data.toList.length s.data.toList
      have HL : Hid (¬ 4096 < s.data.toList.length) := by show ¬ _; omega
      have hLn : (Ut.dec s.data.toList).length ≤ 4096 := by unfold Ut.dec; omega
      obtain ⟨L, hL⟩ : ∃ L, L = Ut.dec s.data.toList := ⟨_, rfl⟩
      have HLe := Lib.hid hL
      rw [← hL] at HD hLn
      clear hd hv hsl hln hL
      go_enter Tryd.func7, Tryd.ntmps7
      go_wp2_with fail
      refine HD.out.mono ?_
      rintro e w1 ⟨v, rfl, hown, hb⟩
      have HB := Lib.hid hb
      have hI := hown.ints (by omega)
      obtain ⟨a0, c0, rfl, _, _, hcl⟩ := hI
      have HG := Lib.hid hcl
      clear hb hown HD hcl
      obtain ⟨n, hn⟩ : ∃ n, n = L.length := ⟨_, rfl⟩
      have HN := Lib.hid hn
      rw [← hn] at hLn ⊢
      clear hn
      have HLet : Hid (∀ (c : Int) (W : World), Calls Tryd.prog 20 #[.int .i64 c] W fun e w' => e = .returned (.bool (Ut.letter c)) ∧ Below W.heap.size W w') := letterR_any
      have HFo : Hid (∀ (c : Int) (W : World), Calls Tryd.prog 22 #[.int .i64 c] W fun e w' => e = .returned (.int .i64 (Ut.fold c)) ∧ Below W.heap.size W w') := foldR_any
      go_wp2_with fail
      go_loopg [6, 7] n (fun gg tv iv wx => ∃ (i : Nat) (acc : List (List UInt8)), i ≤ n ∧ gg = n - i ∧ iv = .int .i64 (i : Int) ∧ acc.length ≤ i ∧
        Hid (acc ++ Ut.rest L i = Ut.terms L) ∧ Hid (acc.all Ut.short = true) ∧ OwnT wx w1.heap.size tv (Ut.toks acc) ∧ Below w1.heap.size w1 wx)
      case atStart => exact ⟨0, [], Nat.zero_le _, rfl, rfl, by simp, by show _ = _; rw [Ut.rest_zero]; rfl, rfl, ownT_nil _ _, Below.refl _ _⟩
      case round =>
        obtain ⟨i, acc, hi, rfl, rfl, hal, hS, hA, hown, hb1⟩ := hrel
        obtain ⟨g6, a6, c6, rfl, _, _, _, _, _⟩ := hown.opened
        rw [Ut.toks_length] at hown
        rw [Ut.toks_length]
        by_cases hin : i < n
        · have i2 : (i : Int) < (n : Int) := by omega
          have ix : i < L.length := by rw [← HN.out]; exact hin
          obtain ⟨g, o, rfl, hg, hcell⟩ := HG.out (by omega)
          have HC : Hid (∀ wx, Below w1.heap.size w1 wx → ∀ j (hj : j < L.length), wx.cell? ⟨g, o + j, none⟩ = some (.int .i64 L[j])) := fun wx hb j hj => (hb.cell (p := ⟨g, o + j, none⟩) hg).trans (hcell j hj)
          have c1 := HC.out wr hb1 i ix
          have hsk := Ut.rest_skip L i ix
          have htk := Ut.rest_take L i ix
          have HO := Lib.hid hown
          have HBB := Lib.hid hb1
          clear hcell hown hb1 HG
          have HIL : Hid (∀ b, Ut.letter L[i] = b → True) := fun _ _ => trivial
          cases hl : Ut.letter L[i]
          · have hS2 : Hid (acc ++ Ut.rest L (i + 1) = Ut.terms L) := by show _ = _; rw [← hS.out, hsk (by rw [hl]; exact fun h => by cases h.1)]
            have hL := Lib.hid (HLet.out L[i] wr)
            rw [hl] at hL
            generalize L[i] = ci at *
            clear hsk htk hS hl HIL HLet HFo
            go_wp2_with fail
            refine hL.out.mono ?_
            rintro e w2 ⟨rfl, hb2⟩
            have HO2 := Lib.hid (HO.out.keep hb2 (Nat.le_refl _))
            have HB2 : Hid (Below w1.heap.size w1 w2) := HBB.out.trans (hb2.mono HBB.out.size)
            clear hb2
            go_wp2_with fail
            go_roundg (n - (i + 1))
            case rel => exact ⟨i + 1, acc, by omega, rfl, by go_num, by omega, hS2, hA, HO2.out, HB2.out⟩
            case measure => omega
          · by_cases hp : Ut.prev L i = true
            · obtain ⟨j, hj⟩ : ∃ j, i = j + 1 := by
                cases i with
                | zero => cases hp
                | succ j => exact ⟨j, rfl⟩
              have jx : j < L.length := by omega
              have hS2 : Hid (acc ++ Ut.rest L (i + 1) = Ut.terms L) := by show _ = _; rw [← hS.out, hsk (by rw [hp]; exact fun h => by cases h.2)]
              have hlj : Ut.letter L[j] = true := by rw [← Ut.prev_succ L j jx, ← hj]; exact hp
              have j2 : (j : Int) < (n : Int) := by omega
              have j3 : (0 : Int) < (i : Int) := by omega
              have hL := Lib.hid (HLet.out L[i] wr)
              have HLj := Lib.hid (fun W => HLet.out L[j] W)
              have HCj : Hid (∀ wx, Below w1.heap.size w1 wx → wx.cell? ⟨g, o + (i - 1), none⟩ = some (.int .i64 L[j])) := fun wx hb => (congrArg (fun t => wx.cell? ⟨g, o + t, none⟩) (show i - 1 = j by omega)).trans (HC.out wx hb j jx)
              rw [hl] at hL
              rw [hlj] at HLj
              generalize L[i] = ci at *
              generalize L[j] = cj at *
              clear hsk htk hS hl HIL HLet HFo HC hp hlj hj
              go_wp2_with fail
              refine hL.out.mono ?_
              rintro e w2 ⟨rfl, hb2⟩
              have HO2 := Lib.hid (HO.out.keep hb2 (Nat.le_refl _))
              have HB2 : Hid (Below w1.heap.size w1 w2) := HBB.out.trans (hb2.mono HBB.out.size)
              have c2 := HCj.out w2 HB2.out
              clear hb2
              go_wp2_with fail
              refine (HLj.out w2).mono ?_
              rintro e w3 ⟨rfl, hb3⟩
              have HO3 := Lib.hid (HO2.out.keep hb3 (Nat.le_refl _))
              have HB3 : Hid (Below w1.heap.size w1 w3) := HB2.out.trans (hb3.mono HB2.out.size)
              clear hb3
              go_wp2_with fail
              go_roundg (n - (i + 1))
              case rel => exact ⟨i + 1, acc, by omega, rfl, by go_num, by omega, hS2, hA, HO3.out, HB3.out⟩
              case measure => omega
            · have hp2 : Ut.prev L i = false := by simpa using hp
              have htk2 := htk ⟨hl, hp2⟩
              rw [htk2] at hS
              have hL := Lib.hid (HLet.out L[i] wr)
              rw [hl] at hL
              by_cases hi0 : i = 0
              case' pos =>
                have j3 : ¬ (0 : Int) < (i : Int) := by omega
                generalize L[i] = ci at *
                clear hsk htk htk2 hl HIL hp hp2 hi0
                go_wp2_with fail
                refine hL.out.mono ?_
                rintro e wz ⟨rfl, hb2⟩
                have HOz := Lib.hid (HO.out.keep hb2 (Nat.le_refl _))
                have HBz : Hid (Below w1.heap.size w1 wz) := HBB.out.trans (hb2.mono HBB.out.size)
                clear hb2
                go_wp2_with fail
              case' neg =>
                obtain ⟨j, hj⟩ : ∃ j, i = j + 1 := ⟨i - 1, by omega⟩
                have jx : j < L.length := by omega
                have hlj : Ut.letter L[j] = false := by rw [← Ut.prev_succ L j jx, ← hj]; exact hp2
                have j2 : (j : Int) < (n : Int) := by omega
                have j3 : (0 : Int) < (i : Int) := by omega
                have HLj := Lib.hid (fun W => HLet.out L[j] W)
                have HCj : Hid (∀ wx, Below w1.heap.size w1 wx → wx.cell? ⟨g, o + (i - 1), none⟩ = some (.int .i64 L[j])) := fun wx hb => (congrArg (fun t => wx.cell? ⟨g, o + t, none⟩) (show i - 1 = j by omega)).trans (HC.out wx hb j jx)
                rw [hlj] at HLj
                generalize L[i] = ci at *
                generalize L[j] = cj at *
                clear hsk htk htk2 hl HIL hp hp2 hlj hj hi0
                go_wp2_with fail
                refine hL.out.mono ?_
                rintro e w2 ⟨rfl, hb2⟩
                have HO2 := Lib.hid (HO.out.keep hb2 (Nat.le_refl _))
                have HB2 : Hid (Below w1.heap.size w1 w2) := HBB.out.trans (hb2.mono HBB.out.size)
                have c2 := HCj.out w2 HB2.out
                clear hb2
                go_wp2_with fail
                refine (HLj.out w2).mono ?_
                rintro e wz ⟨rfl, hb3⟩
                have HOz := Lib.hid (HO2.out.keep hb3 (Nat.le_refl _))
                have HBz : Hid (Below w1.heap.size w1 wz) := HB2.out.trans (hb3.mono HB2.out.size)
                clear hb3 c2 HLj HCj HO2 HB2 j2 jx
                go_wp2_with fail
              all_goals
                clear c1 hL HO HBB j3
                have hrow := Lib.hid (Ut.term_step L i)
                go_loopg [8, 9] (n - i) (fun gg2 tv2 kv2 wy => ∃ (k : Nat) (S : ByteArray), i ≤ k ∧ k ≤ n ∧ gg2 = n - k ∧ kv2 = .int .i64 (k : Int) ∧ tv2 = .string S ∧ S.size ≤ 4 * (k - i) ∧ Hid (S = ⟨(Ut.term ((L.drop i).take (k - i))).toArray⟩) ∧
                  Hid (Ut.ahead (L.drop i) = (k - i) + Ut.ahead (L.drop k)) ∧ OwnT wy w1.heap.size (.slice a6 acc.length c6) (Ut.toks acc) ∧ Below w1.heap.size w1 wy)
                case atStart => exact ⟨i, ⟨#[]⟩, Nat.le_refl _, by omega, rfl, rfl, rfl, Nat.zero_le _, by show _ = _; rw [Nat.sub_self, List.take_zero]; rfl, by show _ = _; rw [Nat.sub_self, Nat.zero_add], HOz.out, HBz.out⟩
                case round =>
                  obtain ⟨k, S, hik, hk, rfl, rfl, rfl, hS4, hSe, hAh, hown, hb1⟩ := hrel
                  have HO := Lib.hid hown
                  have HBB := Lib.hid hb1
                  clear hown hb1 HOz HBz
                  by_cases hmore : ∃ h : k < L.length, Ut.letter L[k] = true
                  · obtain ⟨kx, hlk⟩ := hmore
                    have hkn : k < n := by rw [HN.out]; exact kx
                    have i3 : (k : Int) < (n : Int) := by omega
                    have c1 := HC.out wr HBB.out k kx
                    have hL := Lib.hid (HLet.out L[k] wr)
                    have hFo := Lib.hid (fun W => HFo.out L[k] W)
                    have hEn := Lib.hid (fun W => one_enc L[k] hlk W)
                    have hHC := Lib.hid (fun wx hb => HC.out wx hb k kx)
                    have hst := hrow.out k hik kx
                    have has := Ut.ahead_step L k kx
                    rw [if_pos hlk] at has
                    have hrl := Ut.rune_length (Ut.fold L[k])
                    rw [hlk] at hL
                    generalize L[k] = ck at *
                    generalize Ut.fold ck = fk at *
                    obtain ⟨T, hTe⟩ : ∃ T : ByteArray, T = ⟨(Lib.encodeRune fk).toArray⟩ := ⟨_, rfl⟩
                    have hTs : T.size ≤ 4 := by rw [hTe, mk_size]; exact hrl.2
                    have hS2 : Hid (S ++ T = ⟨(Ut.term ((L.drop i).take (k + 1 - i))).toArray⟩) := by show _ = _; rw [hSe.out, hTe, mk_append, hst]
                    rw [← hTe] at hEn
                    have hz : ¬ 9223372036854775807 < S.size + T.size := by omega
                    have hz2 : Hid ((S ++ T).size ≤ 4 * (k + 1 - i)) := by show _ ≤ _; rw [ByteArray.size_append]; omega
                    have hAh2 : Hid (Ut.ahead (L.drop i) = (k + 1 - i) + Ut.ahead (L.drop (k + 1))) := by show _ = _; rw [hAh.out, has]; omega
                    clear hst has hrl hTe hSe hAh hlk
                    go_wp2_with fail
                    refine hL.out.mono ?_
                    rintro e w2 ⟨rfl, hb2⟩
                    have HO2 := Lib.hid (HO.out.keep hb2 (Nat.le_refl _))
                    have HB2 : Hid (Below w1.heap.size w1 w2) := HBB.out.trans (hb2.mono HBB.out.size)
                    have c2 := hHC.out w2 HB2.out
                    clear hb2
                    go_wp2_with fail
                    refine (hFo.out w2).mono ?_
                    rintro e w3 ⟨rfl, hb3⟩
                    have HO3 := Lib.hid (HO2.out.keep hb3 (Nat.le_refl _))
                    have HB3 : Hid (Below w1.heap.size w1 w3) := HB2.out.trans (hb3.mono HB2.out.size)
                    clear hb3 c2
                    go_wp2_with fail
                    refine (hEn.out w3).mono ?_
                    rintro e w4 ⟨rfl, hb4⟩
                    have HO4 := Lib.hid (HO3.out.keep hb4 (Nat.le_refl _))
                    have HB4 : Hid (Below w1.heap.size w1 w4) := HB3.out.trans (hb4.mono HB3.out.size)
                    clear hb4
                    go_wp2_with fail
                    go_roundg (n - (k + 1))
                    case rel => exact ⟨k + 1, S ++ T, by omega, by omega, rfl, by go_num, rfl, hz2.out, hS2, hAh2, HO4.out, HB4.out⟩
                    case measure => omega
                  · have hah0 : Ut.ahead (L.drop k) = 0 := by
                      by_cases hkx : k < L.length
                      · rw [Ut.ahead_step L k hkx, if_neg (fun h => hmore ⟨hkx, h⟩)]
                      · exact Ut.ahead_nil L k (by omega)
                    have hahi : Ut.ahead (L.drop i) = k - i := by rw [hAh.out, hah0, Nat.add_zero]
                    rw [hahi] at hS
                    generalize Ut.term ((L.drop i).take (k - i)) = t at *
                    have hss : Ut.short t = decide (S.size ≤ 64) := by rw [hSe.out, mk_size]; rfl
                    have HSS := Lib.hid hss
                    have HLL := Lib.hid (fun (hkn : k < n) => (⟨by rw [← HN.out]; exact hkn, rfl⟩ : ∃ h : k < L.length, L[k] = L[k]))
                    clear hss hAh hah0 hahi hrow
                    by_cases hz : S.size ≤ 64
                    · have i6 : ¬ (64 : Int) < (S.size : Int) := by omega
                      have hsh : Ut.short t = true := by rw [HSS.out]; exact decide_eq_true hz
                      have hAx : Hid ((acc ++ [t]).all Ut.short = true) := by show _ = _; rw [List.all_append, hA.out]; simp [hsh]
                      have hSx : Hid ((acc ++ [t]) ++ Ut.rest L (i + 1) = Ut.terms L) := by show _ = _; rw [← hS.out, List.append_assoc]; rfl
                      clear hsh hA hS hz
                      by_cases hkn : k < n
                      case' pos =>
                        have kx : k < L.length := by rw [← HN.out]; exact hkn
                        have i3 : (k : Int) < (n : Int) := by omega
                        have hlk : Ut.letter L[k] = false := by
                          cases h : Ut.letter L[k]
                          · rfl
                          · exact absurd ⟨kx, h⟩ hmore
                        have c1 := HC.out wr HBB.out k kx
                        have hL := Lib.hid (HLet.out L[k] wr)
                        rw [hlk] at hL
                        generalize L[k] = ck at *
                        clear hmore hlk
                        go_wp2_with fail
                        refine hL.out.mono ?_
                        rintro e wz ⟨rfl, hb2⟩
                        have HOz := Lib.hid (HO.out.keep hb2 (Nat.le_refl _))
                        have HBz : Hid (Below w1.heap.size w1 wz) := HBB.out.trans (hb2.mono HBB.out.size)
                        have HZ := Lib.hid HBz.out.size
                        clear hb2
                        go_wp2_with (at_builtin; go_loud ((refine wpList_pushT rfl _ _ rfl w1.heap.size HZ.out (.slice a6 acc.length c6) (Ut.toks acc) S (acc.length : Int) rfl HOz.out rfl (by rw [Ut.toks_length]; omega) ?_; intro v5 w5 hown5 hb5 hg5)))
                      case' neg =>
                        have i3 : ¬ (k : Int) < (n : Int) := by omega
                        clear hmore
                        have HOz := HO
                        have HBz := HBB
                        have HZ := Lib.hid HBz.out.size
                        generalize wr = wz at *
                        go_wp2_with (at_builtin; go_loud ((refine wpList_pushT rfl _ _ rfl w1.heap.size HZ.out (.slice a6 acc.length c6) (Ut.toks acc) S (acc.length : Int) rfl HOz.out rfl (by rw [Ut.toks_length]; omega) ?_; intro v5 w5 hown5 hb5 hg5)))
                      all_goals
                        have HO5 : Hid (OwnT w5 w1.heap.size v5 (Ut.toks (acc ++ [t]))) := by show OwnT _ _ _ _; rw [Ut.toks_snoc, ← hSe.out]; exact hown5
                        have HB5 : Hid (Below w1.heap.size w1 w5) := HBz.out.trans hb5
                        clear hown5 hb5 hg5
                        go_wp2_with fail
                        go_roundg (n - (i + 1))
                        case rel => exact ⟨i + 1, acc ++ [t], by omega, rfl, by go_num, by simp; omega, hSx, hAx, HO5.out, HB5.out⟩
                        case measure => omega
                    · have i6 : (64 : Int) < (S.size : Int) := by omega
                      have hsh : ¬ Ut.short t = true := by rw [HSS.out, decide_eq_true_iff]; exact hz
                      have htin : t ∈ Ut.terms L := by rw [← hS.out]; simp
                      rw [HLe.out] at htin
                      have hE := Ut.tokE_far HL.out HV.out t htin hsh
                      have HSf := Lib.hid (Ut.tokS_far hE (by omega))
                      have HEf := Lib.hid hE
                      clear hsh hA hS hz htin hE
                      by_cases hkn : k < n
                      case' pos =>
                        have kx : k < L.length := by rw [← HN.out]; exact hkn
                        have i3 : (k : Int) < (n : Int) := by omega
                        have hlk : Ut.letter L[k] = false := by
                          cases h : Ut.letter L[k]
                          · rfl
                          · exact absurd ⟨kx, h⟩ hmore
                        have c1 := HC.out wr HBB.out k kx
                        have hL := Lib.hid (HLet.out L[k] wr)
                        rw [hlk] at hL
                        generalize L[k] = ck at *
                        clear hmore hlk
                        go_wp2_with fail
                        refine hL.out.mono ?_
                        rintro e wz ⟨rfl, hb2⟩
                        have HOz := Lib.hid (HO.out.keep hb2 (Nat.le_refl _))
                        have HBz : Hid (Below w1.heap.size w1 wz) := HBB.out.trans (hb2.mono HBB.out.size)
                        clear hb2
                        go_wp2_with fail
                      case' neg =>
                        have i3 : ¬ (k : Int) < (n : Int) := by omega
                        clear hmore
                        have HOz := HO
                        have HBz := HBB
                        generalize wr = wz at *
                        go_wp2_with fail
                      all_goals
                        have HB5 : Hid (Below w.heap.size w wz) := HB.out.trans (HBz.out.mono HB.out.size)
                        clear i6
                        go_wp2_with fail
                        go_ret2
                        exact ⟨_, ret_vi (by rw [HEf.out]), by rw [HSf.out]; exact ownT_nil _ _, HB5.out⟩
        · have i2 : ¬ (i : Int) < (n : Int) := by omega
          have hacc : acc = Ut.terms L := by have := hS.out; rw [Ut.rest_end L i (by rw [← HN.out]; omega), List.append_nil] at this; exact this
          have hE : Ut.tokE s.data.toList = 0 := Ut.tokE_of (by have := HL.out; omega) HV.out (by rw [← HLe.out, ← hacc]; exact hA.out)
          have hfin : Hid (Ut.tokS s.data.toList = acc) := by show _ = _; rw [(Ut.tokE_ok hE).2.2.2, ← HLe.out, hacc]
          have HE := Lib.hid hE
          have HO5 : Hid (OwnT wr w.heap.size (.slice a6 acc.length c6) (Ut.toks acc)) := hown.base HB.out.size
          have HB5 : Hid (Below w.heap.size w wr) := HB.out.trans (hb1.mono HB.out.size)
          clear hacc hE hS hA hown hb1
          go_wp2_with fail
          go_ret2
          exact ⟨_, ret_vi (by rw [HE.out]), by rw [hfin.out]; exact HO5.out, HB5.out⟩
end Go.Proofs.YtedloedfbegbkaaDoor

/-
  What TupleOne does, round by round.
-/
import Derived.Test.YtilbmbddocimkaaDoorOneC
import Derived.Deep.RegionHeld3
import Derived.Deep.RegionWith
import Derived.Deep.DeepCutAuto
import Derived.Deep.QuietTactic
import Derived.BigQuiet
namespace Go.Proofs.YtilbmbddocimkaaDoor
open Go.RowKit Od Rw Iv

/-- A row of small numbers that came in. -/
def InU (w : World) (a : Option Addr) (len : Nat) (zs : List Int) : Prop :=
  0 < len → ∃ b off, a = some ⟨b, off, none⟩ ∧ b < w.heap.size ∧ ∀ k, k < len → w.cell? ⟨b, off + k, none⟩ = some (.int .u8 (zs.getD k 0)) ∧ 0 ≤ zs.getD k 0 ∧ zs.getD k 0 ≤ 255

theorem mid_new {w W : World} {B : Nat} {st : ByteArray} {kd : Int} {T : Nat} (h : Below w.heap.size w W) (hc : Cur W B st) : Mid w (W.alloc (.cells #[.int .u8 kd, .int .i64 0, .string ⟨#[]⟩] T)) B W.heap.size st kd 0 ⟨#[]⟩ := by
  have hb : Below W.heap.size W (W.alloc (.cells #[.int .u8 kd, .int .i64 0, .string ⟨#[]⟩] T)) := (Below.refl _ _).alloc (Nat.le_refl _) _
  refine ⟨h.trans (hb.mono h.size), hc.below hb hc.lt, ⟨?_, World.frozen?_alloc_at _ _ _ _ rfl⟩, ⟨?_, World.frozen?_alloc_at _ _ _ _ rfl⟩, ⟨?_, World.frozen?_alloc_at _ _ _ _ rfl⟩⟩
  · rw [World.cell?_alloc_at _ _ _ _ rfl]; rfl
  · rw [World.cell?_alloc_at _ _ _ _ rfl]; rfl
  · rw [World.cell?_alloc_at _ _ _ _ rfl]; rfl
theorem rest_lt (st : ByteArray) (z : Int) : (rest st z).size ≤ st.size := by
  unfold rest
  rw [ByteArray.size_extract]
  omega
theorem written_one (W : World) (kd n : Int) (s : ByteArray) (hm : MaxI W) (h0 : 0 ≤ kd ∧ kd ≤ 255) (h1 : -9223372036854775808 ≤ n ∧ n ≤ 9223372036854775807) (h2 : s.size ≤ 1048576) (G : Nat) (hG : G < W.heap.size)
    (c0 : W.cell? ⟨G, 0, none⟩ = some (.int .u8 kd)) (c1 : W.cell? ⟨G, 1, none⟩ = some (.int .i64 n)) (c2 : W.cell? ⟨G, 2, none⟩ = some (.string s)) :
    Calls Tryd.prog 16 #[.slice (some ⟨G, 0, none⟩) 1 1] W (StrPost W.heap.size W (itB kd n s)) := by
  refine written_any _ 1 1 [kd] [n] [s] W (Lib.hid hm) (by omega) (Lib.hid ?_)
  intro _
  refine ⟨G, 0, rfl, hG, fun k hk => ?_⟩
  obtain rfl : k = 0 := by omega
  exact ⟨c0, c1, c2, h0, h1, h2⟩
theorem size_set (W : World) (a : Addr) (v : Value) : (W.setCell a v).heap.size = W.heap.size := by simp [World.setCell]
theorem off_ne {X i j : Nat} (h : i ≠ j) : (⟨X, i, none⟩ : Addr) ≠ ⟨X, j, none⟩ := fun e => h (congrArg Addr.off e)
theorem Mid.setN {w W : World} {B X : Nat} {st s : ByteArray} {kd n : Int} (h : Mid w W B X st kd n s) (hX : w.heap.size ≤ X) (hne : B ≠ X) (m : Int) : Mid w (W.setCell ⟨X, 1, none⟩ (.int .i64 m)) B X st kd m s := by
  obtain ⟨h1, ⟨h2, h3⟩, ⟨a1, a2⟩, ⟨b1, b2⟩, ⟨c1, c2⟩⟩ := h
  exact ⟨h1.setCell hX _, ⟨(World.cell?_setCell_other _ _ _ _ (fun e => hne (congrArg Addr.block e).symm)).trans h2, (World.frozen?_setCell _ _ _ _).trans h3⟩,
    ⟨(World.cell?_setCell_other _ _ _ _ (off_ne (by omega))).trans a1, (World.frozen?_setCell _ _ _ _).trans a2⟩, ⟨World.cell?_setCell_same _ _ _ b1, (World.frozen?_setCell _ _ _ _).trans b2⟩, ⟨(World.cell?_setCell_other _ _ _ _ (off_ne (by omega))).trans c1, (World.frozen?_setCell _ _ _ _).trans c2⟩⟩
theorem Mid.setS {w W : World} {B X : Nat} {st s : ByteArray} {kd n : Int} (h : Mid w W B X st kd n s) (hX : w.heap.size ≤ X) (hne : B ≠ X) (t : ByteArray) : Mid w (W.setCell ⟨X, 2, none⟩ (.string t)) B X st kd n t := by
  obtain ⟨h1, ⟨h2, h3⟩, ⟨a1, a2⟩, ⟨b1, b2⟩, ⟨c1, c2⟩⟩ := h
  exact ⟨h1.setCell hX _, ⟨(World.cell?_setCell_other _ _ _ _ (fun e => hne (congrArg Addr.block e).symm)).trans h2, (World.frozen?_setCell _ _ _ _).trans h3⟩,
    ⟨(World.cell?_setCell_other _ _ _ _ (off_ne (by omega))).trans a1, (World.frozen?_setCell _ _ _ _).trans a2⟩, ⟨(World.cell?_setCell_other _ _ _ _ (off_ne (by omega))).trans b1, (World.frozen?_setCell _ _ _ _).trans b2⟩, ⟨World.cell?_setCell_same _ _ _ c1, (World.frozen?_setCell _ _ _ _).trans c2⟩⟩

/-- An item written: in new memory, of its own bytes. -/
theorem written_mid {w W : World} {B X : Nat} {r s : ByteArray} {kd n : Int} {T : Nat} (hm : MaxI w) (h : Mid w W B X r kd n s) (h0 : 0 ≤ kd ∧ kd ≤ 255) (h1 : -9223372036854775808 ≤ n ∧ n ≤ 9223372036854775807) (h2 : s.size ≤ 1048576) (G : Nat) (hG : G = W.heap.size) :
    Calls Tryd.prog 16 #[.slice (some ⟨G, 0, none⟩) 1 1] (W.alloc (.cells #[.int .u8 kd, .int .i64 n, .string s] T)) (fun e' w' => e' = .returned (.string ⟨(itB kd n s).toArray⟩) ∧ Mid w w' B X r kd n s) := by
  subst hG
  have hb : Below W.heap.size W (W.alloc (.cells #[.int .u8 kd, .int .i64 n, .string s] T)) := (Below.refl _ _).alloc (Nat.le_refl _) _
  have h3 := h.grow hb
  refine (written_one _ kd n s (hm.grow h3.1) h0 h1 h2 W.heap.size (by simp) ?_ ?_ ?_).mono fun e' w' ⟨g1, g2⟩ => ⟨g1, h3.grow g2⟩
  · rw [World.cell?_alloc_at _ _ _ _ rfl]; rfl
  · rw [World.cell?_alloc_at _ _ _ _ rfl]; rfl
  · rw [World.cell?_alloc_at _ _ _ _ rfl]; rfl

set_option maxRecDepth 100000 in
set_option maxHeartbeats 16000000 in
theorem tupleOne_main (s : ByteArray) (a : Option Addr) (len cap : Nat) (zs : List Int) (w : World) (hm : Hid (MaxI w)) (hs : s.size ≤ 1048576) (hI : Hid (InU w a len zs)) :
    Calls Tryd.prog 5 #[.string s, .slice a len cap] w fun e w' => e = .returned (.bool true) ∧ Below w.heap.size w w' := by
  go_enter Tryd.func5, Tryd.ntmps5
  go_wp2_with fail
  refine (at_any s w).mono ?_
  rintro e w1 ⟨rfl, rfl⟩
  have HC0 := Lib.hid (at_cur s w 52)
  have HB0 : Hid (Below w.heap.size w (w.alloc (.cells #[.string s] 52))) := (Below.refl _ _).alloc (Nat.le_refl _) _
  go_wp2_with fail
  refine (awake_any _).mono ?_
  rintro e w1 ⟨rfl, hb1⟩
  have HC1 := Lib.hid (HC0.out.below hb1 HC0.out.lt)
  have HB1 : Hid (Below w.heap.size w w1) := HB0.out.trans (hb1.mono (by simp))
  clear hb1 HC0 HB0
  go_wp2_with fail
  obtain ⟨B, hB⟩ : ∃ B, B = w.heap.size := ⟨_, rfl⟩
  have hBw : w.heap.size ≤ B := Nat.le_of_eq hB.symm
  rw [← hB] at HC1 ⊢
  clear hB
  go_loopw [6] (fun i wr => ∃ (k : Nat) (st : ByteArray), k ≤ len ∧ i = .int .i64 k ∧ Cur wr B st ∧ st.size ≤ 1048576 ∧ Below w.heap.size w wr) (fun i _ => len - (intOf i).toNat)
  case atStart => exact ⟨0, s, Nat.zero_le _, rfl, HC1.out, hs, HB1.out⟩
  case round =>
    clear HC1 HB1
    obtain ⟨k, st, hk, rfl, hcur, hst, hbel⟩ := hrel
    have HCU := Lib.hid hcur
    have HBE := Lib.hid hbel
    by_cases hlt : k < len ∧ k < 200
    · obtain ⟨hl1, hl2⟩ := hlt
      obtain ⟨b, off, h1, hb, hc⟩ := hI.out (by omega)
      subst h1
      obtain ⟨c1, x0, x1⟩ := hc k hl1
      have d1 : wr.cell? ⟨b, off + k, none⟩ = some (.int .u8 (zs.getD k 0)) := (hbel.cell (p := ⟨b, off + k, none⟩) hb).trans c1
      clear hc c1 hbel hcur
      generalize zs.getD k 0 = x at *
      have i0 : (0 : Int) ≤ (k : Int) := by omega
      have i1 : (k : Int) < (len : Int) := by omega
      generalize hq : x % 3 = q at *
      have hq3 : q = 0 ∨ q = 1 ∨ q = 2 := by omega
      have r0 : x.tmod 3 = q := by rw [Int.tmod_eq_emod_of_nonneg x0]; exact hq
      have r1 : IntKind.u8.wrap q = q := IntWalk.u8_in _ (by omega)
      have hqq : (0 ≤ q ∧ q ≤ 255) := by omega
      have hBX : B ≠ wr.heap.size := Nat.ne_of_lt HCU.out.lt
      have hwX : w.heap.size ≤ wr.heap.size := HBE.out.size
      rcases hq3 with rfl | rfl | rfl
      · obtain ⟨n, z, e, hr, hn, hag⟩ := one_num st
        have HC : Hid (∀ W, Mid w W B wr.heap.size st 0 0 ⟨#[]⟩ → Calls Tryd.prog 17 #[.pointer (some ⟨B, 0, none⟩)] W (fun e' w' => e' = .returned (.tuple #[.int .i64 n, .int .i64 e]) ∧ Mid w w' B wr.heap.size (rest st z) 0 0 ⟨#[]⟩)) := fun W h =>
          (num_set st B W h.2.1 (by omega) n z e hr).mono fun e' w' hp => mid_set h hBw hBX hp
        have HR : Hid (∀ W, Mid w W B wr.heap.size (rest st z) 0 0 ⟨#[]⟩ → Calls Tryd.prog 16 #[.slice (some ⟨W.heap.size, 0, none⟩) 1 1] ((W.setCell ⟨wr.heap.size, 1, none⟩ (.int .i64 n)).alloc (.cells #[.int .u8 0, .int .i64 n, .string ⟨#[]⟩] 34)) (fun e' w' => e' = .returned (.string ⟨(Pl.numB n).toArray⟩) ∧ Mid w w' B wr.heap.size (rest st z) 0 n ⟨#[]⟩)) := fun W h =>
          written_mid hm.out (h.setN hwX hBX n) hqq hn (Nat.zero_le _) W.heap.size (size_set _ _ _).symm
        have hrs : (rest st z).size ≤ 1048576 := Nat.le_trans (rest_lt st z) hst
        have has : (⟨(Pl.numB n).toArray⟩ : ByteArray).size ≤ 2097163 := by
          have e : (⟨(Pl.numB n).toArray⟩ : ByteArray).size = (Pl.numB n).length := by simp [ByteArray.size]
          rw [e]
          have := numB_length n
          omega
        have z1 : ¬ 9223372036854775807 < (⟨(Pl.numB n).toArray⟩ : ByteArray).size + (rest st z).size := by omega
        clear hr hn
        generalize (⟨(Pl.numB n).toArray⟩ : ByteArray) = ag at *
        generalize rest st z = r at *
        rcases hag with ⟨rfl, rfl⟩ | ⟨he, rfl, rfl, _⟩
        · go_wp2_with (first | (go_at_call 20; refine (rest_any _ B _ (by first | exact HCU.out | exact HM2.out.2.1)).mono ?_; rintro e w' ⟨rfl, rfl⟩) | (go_at_call 17; refine (HC.out _ (mid_new HBE.out HCU.out)).mono ?_; rintro e w1 ⟨rfl, hmid⟩; have HM := Lib.hid hmid; obtain ⟨hm1, hm2, ⟨p1, p2⟩, ⟨p3, p4⟩, ⟨p5, p6⟩⟩ := hmid; clear hm1 hm2) | (go_at_call 16; refine (HR.out _ HM.out).mono ?_; rintro e w2 ⟨rfl, hmid⟩; have HM2 := Lib.hid hmid; obtain ⟨hm1, hm2, ⟨o1, o2⟩, ⟨o3, o4⟩, ⟨o5, o6⟩⟩ := hmid; clear hm1 hm2))
          go_roundw
          case rel => exact ⟨k + 1, _, by omega, by go_num, HM2.out.2.1, hrs, HM2.out.1⟩
          case measure => simp [intOf]; omega
        · rcases he with rfl | rfl
          all_goals
            go_wp2_with (first | (go_at_call 20; refine (rest_any _ B _ (by first | exact HCU.out | exact HM2.out.2.1)).mono ?_; rintro e w' ⟨rfl, rfl⟩) | (go_at_call 17; refine (HC.out _ (mid_new HBE.out HCU.out)).mono ?_; rintro e w1 ⟨rfl, hmid⟩; have HM := Lib.hid hmid; obtain ⟨hm1, hm2, ⟨p1, p2⟩, ⟨p3, p4⟩, ⟨p5, p6⟩⟩ := hmid; clear hm1 hm2) | (go_at_call 16; refine (HR.out _ HM.out).mono ?_; rintro e w2 ⟨rfl, hmid⟩; have HM2 := Lib.hid hmid; obtain ⟨hm1, hm2, ⟨o1, o2⟩, ⟨o3, o4⟩, ⟨o5, o6⟩⟩ := hmid; clear hm1 hm2))
            go_roundw
            case rel => exact ⟨k + 1, _, by omega, by go_num, HM2.out.2.1, hrs, HM2.out.1⟩
            case measure => simp [intOf]; omega
      · obtain ⟨t, z, e, hr, ht, hag⟩ := one_text st
        have hts : (⟨t.toArray⟩ : ByteArray).size ≤ 1048576 := by have : (⟨t.toArray⟩ : ByteArray).size = t.length := by simp [ByteArray.size]
                                                                  omega
        have HC : Hid (∀ W, Mid w W B wr.heap.size st 1 0 ⟨#[]⟩ → Calls Tryd.prog 18 #[.pointer (some ⟨B, 0, none⟩)] W (fun e' w' => e' = .returned (.tuple #[.string ⟨t.toArray⟩, .int .i64 e]) ∧ Mid w w' B wr.heap.size (rest st z) 1 0 ⟨#[]⟩)) := fun W h =>
          (text_set st B W h.2.1 (by omega) t z e hr).mono fun e' w' hp => mid_set h hBw hBX hp
        have HR : Hid (∀ W, Mid w W B wr.heap.size (rest st z) 1 0 ⟨#[]⟩ → Calls Tryd.prog 16 #[.slice (some ⟨W.heap.size, 0, none⟩) 1 1] ((W.setCell ⟨wr.heap.size, 2, none⟩ (.string ⟨t.toArray⟩)).alloc (.cells #[.int .u8 1, .int .i64 0, .string ⟨t.toArray⟩] 34)) (fun e' w' => e' = .returned (.string ⟨(textB t).toArray⟩) ∧ Mid w w' B wr.heap.size (rest st z) 1 0 ⟨t.toArray⟩)) := fun W h =>
          written_mid hm.out (h.setS hwX hBX ⟨t.toArray⟩) hqq (by omega) hts W.heap.size (size_set _ _ _).symm
        have hrs : (rest st z).size ≤ 1048576 := Nat.le_trans (rest_lt st z) hst
        have has : (⟨(textB t).toArray⟩ : ByteArray).size ≤ 2097163 := by
          have e : (⟨(textB t).toArray⟩ : ByteArray).size = (textB t).length := by simp [ByteArray.size]
          rw [e]
          have := esc_length t
          simp only [textB, List.length_append, List.length_cons, List.length_nil]
          omega
        have z1 : ¬ 9223372036854775807 < (⟨(textB t).toArray⟩ : ByteArray).size + (rest st z).size := by omega
        clear hr ht hts
        generalize (⟨(textB t).toArray⟩ : ByteArray) = ag at *
        generalize (⟨t.toArray⟩ : ByteArray) = tt at *
        generalize rest st z = r at *
        rcases hag with ⟨rfl, rfl⟩ | ⟨he, rfl, _, rfl⟩
        · go_wp2_with (first | (go_at_call 20; refine (rest_any _ B _ (by first | exact HCU.out | exact HM2.out.2.1)).mono ?_; rintro e w' ⟨rfl, rfl⟩) | (go_at_call 18; refine (HC.out _ (mid_new HBE.out HCU.out)).mono ?_; rintro e w1 ⟨rfl, hmid⟩; have HM := Lib.hid hmid; obtain ⟨hm1, hm2, ⟨p1, p2⟩, ⟨p3, p4⟩, ⟨p5, p6⟩⟩ := hmid; clear hm1 hm2) | (go_at_call 16; refine (HR.out _ HM.out).mono ?_; rintro e w2 ⟨rfl, hmid⟩; have HM2 := Lib.hid hmid; obtain ⟨hm1, hm2, ⟨o1, o2⟩, ⟨o3, o4⟩, ⟨o5, o6⟩⟩ := hmid; clear hm1 hm2))
          go_roundw
          case rel => exact ⟨k + 1, _, by omega, by go_num, HM2.out.2.1, hrs, HM2.out.1⟩
          case measure => simp [intOf]; omega
        · rcases he with rfl | rfl
          all_goals
            go_wp2_with (first | (go_at_call 20; refine (rest_any _ B _ (by first | exact HCU.out | exact HM2.out.2.1)).mono ?_; rintro e w' ⟨rfl, rfl⟩) | (go_at_call 18; refine (HC.out _ (mid_new HBE.out HCU.out)).mono ?_; rintro e w1 ⟨rfl, hmid⟩; have HM := Lib.hid hmid; obtain ⟨hm1, hm2, ⟨p1, p2⟩, ⟨p3, p4⟩, ⟨p5, p6⟩⟩ := hmid; clear hm1 hm2) | (go_at_call 16; refine (HR.out _ HM.out).mono ?_; rintro e w2 ⟨rfl, hmid⟩; have HM2 := Lib.hid hmid; obtain ⟨hm1, hm2, ⟨o1, o2⟩, ⟨o3, o4⟩, ⟨o5, o6⟩⟩ := hmid; clear hm1 hm2))
            go_roundw
            case rel => exact ⟨k + 1, _, by omega, by go_num, HM2.out.2.1, hrs, HM2.out.1⟩
            case measure => simp [intOf]; omega
      · obtain ⟨t, z, e, hr, ht, hag⟩ := one_block st
        have hts : (⟨t.toArray⟩ : ByteArray).size ≤ 1048576 := by have : (⟨t.toArray⟩ : ByteArray).size = t.length := by simp [ByteArray.size]
                                                                  omega
        have HC : Hid (∀ W, Mid w W B wr.heap.size st 2 0 ⟨#[]⟩ → Calls Tryd.prog 19 #[.pointer (some ⟨B, 0, none⟩)] W (fun e' w' => e' = .returned (.tuple #[.string ⟨t.toArray⟩, .int .i64 e]) ∧ Mid w w' B wr.heap.size (rest st z) 2 0 ⟨#[]⟩)) := fun W h =>
          (block_set st B W h.2.1 (by omega) t z e hr).mono fun e' w' hp => mid_set h hBw hBX hp
        have HR : Hid (∀ W, Mid w W B wr.heap.size (rest st z) 2 0 ⟨#[]⟩ → Calls Tryd.prog 16 #[.slice (some ⟨W.heap.size, 0, none⟩) 1 1] ((W.setCell ⟨wr.heap.size, 2, none⟩ (.string ⟨t.toArray⟩)).alloc (.cells #[.int .u8 2, .int .i64 0, .string ⟨t.toArray⟩] 34)) (fun e' w' => e' = .returned (.string ⟨(blockB t).toArray⟩) ∧ Mid w w' B wr.heap.size (rest st z) 2 0 ⟨t.toArray⟩)) := fun W h =>
          written_mid hm.out (h.setS hwX hBX ⟨t.toArray⟩) hqq (by omega) hts W.heap.size (size_set _ _ _).symm
        have hrs : (rest st z).size ≤ 1048576 := Nat.le_trans (rest_lt st z) hst
        have has : (⟨(blockB t).toArray⟩ : ByteArray).size ≤ 2097163 := by
          have e : (⟨(blockB t).toArray⟩ : ByteArray).size = (blockB t).length := by simp [ByteArray.size]
          rw [e]
          have := numB_length (t.length : Int)
          simp only [blockB, List.length_append]
          omega
        have z1 : ¬ 9223372036854775807 < (⟨(blockB t).toArray⟩ : ByteArray).size + (rest st z).size := by omega
        clear hr ht hts
        generalize (⟨(blockB t).toArray⟩ : ByteArray) = ag at *
        generalize (⟨t.toArray⟩ : ByteArray) = tt at *
        generalize rest st z = r at *
        rcases hag with ⟨rfl, rfl⟩ | ⟨he, rfl, _, rfl⟩
        · go_wp2_with (first | (go_at_call 20; refine (rest_any _ B _ (by first | exact HCU.out | exact HM2.out.2.1)).mono ?_; rintro e w' ⟨rfl, rfl⟩) | (go_at_call 19; refine (HC.out _ (mid_new HBE.out HCU.out)).mono ?_; rintro e w1 ⟨rfl, hmid⟩; have HM := Lib.hid hmid; obtain ⟨hm1, hm2, ⟨p1, p2⟩, ⟨p3, p4⟩, ⟨p5, p6⟩⟩ := hmid; clear hm1 hm2) | (go_at_call 16; refine (HR.out _ HM.out).mono ?_; rintro e w2 ⟨rfl, hmid⟩; have HM2 := Lib.hid hmid; obtain ⟨hm1, hm2, ⟨o1, o2⟩, ⟨o3, o4⟩, ⟨o5, o6⟩⟩ := hmid; clear hm1 hm2))
          go_roundw
          case rel => exact ⟨k + 1, _, by omega, by go_num, HM2.out.2.1, hrs, HM2.out.1⟩
          case measure => simp [intOf]; omega
        · rcases he with rfl | rfl
          all_goals
            go_wp2_with (first | (go_at_call 20; refine (rest_any _ B _ (by first | exact HCU.out | exact HM2.out.2.1)).mono ?_; rintro e w' ⟨rfl, rfl⟩) | (go_at_call 19; refine (HC.out _ (mid_new HBE.out HCU.out)).mono ?_; rintro e w1 ⟨rfl, hmid⟩; have HM := Lib.hid hmid; obtain ⟨hm1, hm2, ⟨p1, p2⟩, ⟨p3, p4⟩, ⟨p5, p6⟩⟩ := hmid; clear hm1 hm2) | (go_at_call 16; refine (HR.out _ HM.out).mono ?_; rintro e w2 ⟨rfl, hmid⟩; have HM2 := Lib.hid hmid; obtain ⟨hm1, hm2, ⟨o1, o2⟩, ⟨o3, o4⟩, ⟨o5, o6⟩⟩ := hmid; clear hm1 hm2))
            go_roundw
            case rel => exact ⟨k + 1, _, by omega, by go_num, HM2.out.2.1, hrs, HM2.out.1⟩
            case measure => simp [intOf]; omega
    · clear hbel hcur
      by_cases hl1 : k < len
      · have hl2 : 200 ≤ k := by omega
        clear hlt
        go_wp2_with fail
        go_ret
        exact ⟨rfl, HBE.out⟩
      · clear hlt
        go_wp2_with fail
        go_ret
        exact ⟨rfl, HBE.out⟩
end Go.Proofs.YtilbmbddocimkaaDoor

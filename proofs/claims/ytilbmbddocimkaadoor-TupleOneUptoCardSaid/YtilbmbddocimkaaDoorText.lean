/-
  What the readers of texts and blocks answer, call by call, as plain functions of their arguments.
-/
import Derived.Test.YtilbmbddocimkaaDoorNum
import Derived.OwnWalk
import Derived.Laws.IdiomStrings
import Derived.Deep.LoopGhost
import Derived.Lib.Strings
namespace Go.Proofs.YtilbmbddocimkaaDoor
open Go.RowKit

theorem Tryd.infoB : (Tryd.prog.info? 5).map (fun i => (i.zero, i.size, i.bytes)) = some (some (.int .u8 0), 1, 1) := by kernel_rfl

theorem ret_sii {s1 s2 : ByteArray} {a b c d : Int} (h1 : s1 = s2) (h2 : a = b) (h3 : c = d) : Ending.returned (.tuple #[.string s1, .int .i64 a, .int .i64 c]) = Ending.returned (.tuple #[.string s2, .int .i64 b, .int .i64 d]) := by rw [h1, h2, h3]
theorem mk_of {s : ByteArray} {l : List UInt8} (h : s.data.toList = l) : s = ⟨l.toArray⟩ := by
  subst h
  cases s
  simp
theorem cut_mk (s : ByteArray) (y n : Nat) : s.extract y (y + n) = ⟨((s.data.toList.drop y).take n).toArray⟩ := by
  apply mk_of
  rw [Lib.extract_data, Nat.add_sub_cancel_left]

/-- Bytes as cells. -/
def bytesV (l : List UInt8) : List Value := l.map (fun c => .int .u8 (c.toNat : Int))
theorem bytesV_snoc (l : List UInt8) (c : UInt8) : bytesV l ++ [.int .u8 (c.toNat : Int)] = bytesV (l ++ [c]) := by simp [bytesV]
theorem bytesV_length (l : List UInt8) : (bytesV l).length = l.length := by simp [bytesV]

/-- The slice v is the call's own, from block B on, and holds these bytes. -/
def OwnB (w : World) (B : Nat) (v : Value) (l : List UInt8) : Prop := w.ownsRow B 5 1 v l.length (bytesV l)

theorem own_conv {w : World} {B : Nat} {v : Value} {l : List UInt8} (h : OwnB w B v l) :
    (convert 41 9 v).run Tryd.prog w = .ok (.string ⟨l.toArray⟩) w := by
  have hown : w.ownsRow B 5 1 v l.length (bytesV l) := h
  rcases h.2 with ⟨rfl, h0⟩ | ⟨g, cap, cur, rfl, hg, hh, hnc, hcp, hcs, htake⟩
  · obtain rfl : l = [] := List.length_eq_zero_iff.1 h0
    rw [run_convert_bytes_string w 41 9 5 none 0 0 Tryd.underlying41 Tryd.underlying5 Tryd.underlying9]
    simp [Conv.bytesToString]
    rfl
  · have hcells : ∀ j (hj : j < l.length), w.cell? ((⟨g, 0, none⟩ : Addr).add j) = some (.int .u8 (l[j].toNat : Int)) := fun j hj => by
      rw [Addr.add_lit, Nat.zero_add, hown.cellAt j (by omega)]
      simp [bytesV, hj]
    exact run_convert_bytes_back (P := Tryd.prog) w 41 9 5 ⟨g, 0, none⟩ cap l Tryd.underlying41 Tryd.underlying5 Tryd.underlying9 hcells

/-- Behind an append of one byte. -/
theorem own_push {w wr w1 : World} {B : Nat} {v v' : Value} {l : List UInt8} {c : UInt8} {o : Obj} (hB : B ≤ wr.heap.size) (h : OwnB wr B v l) (hb : Below B w wr)
    (h1 : w1.ownsRow B 5 1 v' (l.length + 1) (bytesV l ++ [.int .u8 (c.toNat : Int)])) (hg : (wr.alloc o).grownBy w1 v.ownBlock) :
    OwnB w1 B v' (l ++ [c]) ∧ Below B w w1 := by
  have hown : wr.ownsRow B 5 1 v l.length (bytesV l) := h
  refine ⟨?_, (hb.alloc hB o).grown hg (by simp; omega) (fun j hj => (hown.lt j hj).1)⟩
  unfold OwnB
  rw [bytesV_snoc] at h1
  simpa using h1

theorem drop_cons (s : ByteArray) (k : Nat) (h : k < s.size) : s.data.toList.drop k = s[k] :: s.data.toList.drop (k + 1) := by
  have hl : k < s.data.toList.length := by simpa using h
  rw [List.drop_eq_getElem_cons hl]
  rfl
theorem drop_all (s : ByteArray) (k : Nat) (h : s.size ≤ k) : s.data.toList.drop k = [] := by
  apply List.drop_of_length_le
  simpa using h
theorem rdText_byte (c : UInt8) (t out : List UInt8) (k : Nat) (h : 0 < c.toNat) : Pl.rdText (c :: t) out k = Pl.rdText t (out ++ [c]) (k + 1) := by
  have hc : c ≠ 0 := by intro e; subst e; simp at h
  rw [Pl.rdText]
  · intro e; exact fun h' => absurd e hc
  · intro d t' e; exact absurd e hc

set_option maxRecDepth 100000 in
set_option maxHeartbeats 1000000 in
theorem readText_any (s : ByteArray) (w : World) (hsz : s.size ≤ 140737488351232) (t : List UInt8) (z e : Int) (hr : Pl.rdText s.data.toList [] 0 = (t, z, e)) :
    Calls Tryd.prog 30 #[.string s] w fun e' w' => e' = .returned (.tuple #[.string ⟨t.toArray⟩, .int .i64 z, .int .i64 e]) ∧ Below w.heap.size w w' := by
  obtain ⟨i0, hi, hz0, hz1, hz2⟩ := info_parts Tryd.infoB
  have HR := Lib.hid hr
  clear hr
  go_enter Tryd.func30, Tryd.ntmps30
  go_wp2_with fail
  go_loopw [5, 6] (fun v i wr => ∃ (k : Nat) (acc : List UInt8), k ≤ s.size ∧ i = .int .i64 k ∧ acc.length ≤ k ∧ OwnB wr w.heap.size v acc ∧ Below w.heap.size w wr ∧ Hid (Pl.rdText (s.data.toList.drop k) acc k = (t, z, e))) (fun _ i _ => s.size - (intOf i).toNat)
  case atStart => exact ⟨0, [], Nat.zero_le _, rfl, Nat.le_refl _, World.ownsRow_nil _ _ _ _, Below.refl _ _, HR.out⟩
  case round =>
    clear HR
    obtain ⟨k, acc, hk, rfl, hacc, hown, hbel, hrd⟩ := hrel
    have hB := hbel.size
    have hown' : wr.ownsRow w.heap.size 5 1 u5 acc.length (bytesV acc) := hown
    by_cases hlt : k < s.size
    · by_cases hc : 0 < s[k].toNat
      · have hst : Hid (Pl.rdText (s.data.toList.drop (k + 1)) (acc ++ [s[k]]) (k + 1) = (t, z, e)) := by
          have := hrd.out
          rw [drop_cons s k hlt, rdText_byte _ _ _ _ hc] at this
          exact this
        clear hrd
        have hne : ((s[k].toNat : Int) != 0) = true := by simp; omega
        go_wp2_with (at_builtin; refine wpList_append_own _ rfl _ _ 41 rfl w.heap.size 5 i0 (.int .u8 0) 1 1 Tryd.underlying41 hi hz0 hz1 hz2 rfl (by decide) _ _ _ rfl (hown'.alloc _) ⟨wr.heap.size, 0, none⟩ 1 1 [.int .u8 (s[k].toNat : Int)] rfl rfl ?c1 ?c2 ?c3 ?c4 ?c5 ?_)
        case c1 =>
          intro j u hj
          match j, hj with
          | 0, hj => simp at hj; subst hj; simp [Addr.add]
        case c2 => intro u hu; simp at hu; subst hu; rfl
        case c3 => unfold maxLen; omega
        case c4 => omega
        case c5 => simp; omega
        · intro v' w1 hown1 hgrow _
          have R := own_push hB hown hbel hown1 hgrow
          clear hown1 hgrow hown hown' hbel hne
          go_wp2
          go_roundw
          case rel => exact ⟨k + 1, _, by omega, by go_num, by simp; omega, R.1, R.2, hst⟩
          case measure => simp [intOf]; omega
      · have hz : s[k] = 0 := by
          have : s[k].toNat = 0 := by omega
          exact UInt8.toNat_inj.1 this
        have hne : ((s[k].toNat : Int) != 0) = false := by rw [hz]; rfl
        clear hc
        by_cases hl2 : k + 1 < s.size
        · have hd := hrd.out
          rw [drop_cons s k hlt, hz, drop_cons s (k + 1) hl2] at hd
          clear hz
          simp only [Pl.rdText] at hd
          have hle : ((k : Int) + 1 == (s.size : Int)) = false := by simp; omega
          by_cases h255 : s[k+1].toNat = 255
          · have h255' : s[k+1] = 255 := UInt8.toNat_inj.1 h255
            rw [if_pos h255'] at hd
            have hst : Hid (Pl.rdText (s.data.toList.drop (k + 2)) (acc ++ [0]) (k + 2) = (t, z, e)) := hd
            clear hd hrd h255'
            have hq : ((s[k+1].toNat : Int) == 255) = true := by rw [h255]; rfl
            clear h255
            go_wp2_with (at_builtin; refine wpList_append_own _ rfl _ _ 41 rfl w.heap.size 5 i0 (.int .u8 0) 1 1 Tryd.underlying41 hi hz0 hz1 hz2 rfl (by decide) _ _ _ rfl (hown'.alloc _) ⟨wr.heap.size, 0, none⟩ 1 1 [.int .u8 0] rfl rfl ?d1 ?d2 ?d3 ?d4 ?d5 ?_)
            case d1 =>
              intro j u hj
              match j, hj with
              | 0, hj => simp at hj; subst hj; simp [Addr.add]
            case d2 => intro u hu; simp at hu; subst hu; rfl
            case d3 => unfold maxLen; omega
            case d4 => omega
            case d5 => simp; omega
            · intro v' w1 hown1 hgrow _
              have R := own_push (c := 0) hB hown hbel hown1 hgrow
              clear hown1 hgrow hown hown' hbel hne hle hq
              go_wp2
              go_roundw
              case rel => exact ⟨k + 2, _, by omega, by go_num, by simp; omega, R.1, R.2, hst⟩
              case measure => simp [intOf]; omega
          · have h255' : s[k+1] ≠ 255 := fun e => h255 (by rw [e]; rfl)
            rw [if_neg h255'] at hd
            have hq : ((s[k+1].toNat : Int) == 255) = false := by simp; omega
            clear h255 h255'
            by_cases h1 : s[k+1].toNat = 1
            · have h1' : s[k+1] = 1 := UInt8.toNat_inj.1 h1
              rw [if_pos h1'] at hd
              have hq1 : ((s[k+1].toNat : Int) == 1) = true := by rw [h1]; rfl
              obtain ⟨rfl, rfl, rfl⟩ : acc = t ∧ (k : Int) + 2 = z ∧ 0 = e := by simpa using hd
              clear hd hrd h1 h1'
              have hcv := own_conv hown
              go_wp2_with fail
              go_ret3
              exact ⟨ret_sii rfl (by omega) rfl, hbel⟩
            · have h1' : s[k+1] ≠ 1 := fun e => h1 (by rw [e]; rfl)
              rw [if_neg h1'] at hd
              have hq1 : ((s[k+1].toNat : Int) == 1) = false := by simp; omega
              obtain ⟨rfl, rfl, rfl⟩ : [] = t ∧ 0 = z ∧ 3 = e := by simpa using hd
              clear hd hrd h1 h1'
              go_wp2_with fail
              go_ret3
              exact ⟨rfl, hbel⟩
        · have hd := hrd.out
          rw [drop_cons s k hlt, hz, drop_all s (k + 1) (by omega)] at hd
          obtain ⟨rfl, rfl, rfl⟩ : [] = t ∧ 0 = z ∧ 2 = e := by simpa [Pl.rdText] using hd
          clear hd hrd hz
          have hle : ((k : Int) + 1 == (s.size : Int)) = true := by simp; omega
          go_wp2_with fail
          go_ret3
          exact ⟨rfl, hbel⟩
    · go_wp2_with fail
      go_ret3
      have := hrd.out
      rw [drop_all s k (by omega)] at this
      obtain ⟨rfl, rfl, rfl⟩ : [] = t ∧ 0 = z ∧ 2 = e := by simpa [Pl.rdText] using this
      exact ⟨rfl, hbel⟩

theorem rdCount_bd (l : List UInt8) (n z e : Int) (h : Pl.rdCount l = (n, z, e)) :
    (0 ≤ n ∧ n ≤ 9223372036854775807) ∧ (0 ≤ z ∧ z ≤ l.length) ∧ (e = 0 ∨ e = 2 ∨ e = 3) ∧ (e ≠ 0 → n = 0 ∧ z = 0) := by
  obtain ⟨n', z', e', hw⟩ : ∃ n z e, Pl.rdNum l = (n, z, e) := ⟨_, _, _, rfl⟩
  have hb := rdNum_bd _ _ _ _ hw
  unfold Pl.rdCount at h
  rw [hw] at h
  by_cases hn : n' < 0
  · rw [if_pos hn] at h
    obtain ⟨rfl, rfl, rfl⟩ : 0 = n ∧ 0 = z ∧ 3 = e := by simpa using h
    exact ⟨by omega, by omega, by omega, by omega⟩
  · rw [if_neg hn] at h
    obtain ⟨rfl, rfl, rfl⟩ : n' = n ∧ z' = z ∧ e' = e := by simpa using h
    omega

set_option maxRecDepth 100000 in
set_option maxHeartbeats 1000000 in
theorem readBlock_any (s : ByteArray) (w : World) (hsz : s.size ≤ 9223372036854775807) (t : List UInt8) (z e : Int) (hr : Pl.rdBlock s.data.toList = (t, z, e)) :
    Calls Tryd.prog 31 #[.string s] w fun e' w' => e' = .returned (.tuple #[.string ⟨t.toArray⟩, .int .i64 z, .int .i64 e]) ∧ w = w' := by
  obtain ⟨n', z', e', hw⟩ : ∃ n z e, Pl.rdCount s.data.toList = (n, z, e) := ⟨_, _, _, rfl⟩
  have hc := readCount_any s w hsz n' z' e' hw
  have hb := rdCount_bd _ _ _ _ hw
  have hlen : s.data.toList.length = s.size := by simp
  unfold Pl.rdBlock at hr
  rw [hw, hlen] at hr
  rw [hlen] at hb
  have HC := Lib.hid hc
  clear hc hw hlen
  obtain ⟨⟨b1, b2⟩, ⟨b3, b4⟩, _, b6⟩ := hb
  by_cases he : e' = 0
  · subst he
    simp only [ne_eq, not_true, if_false] at hr
    clear b6
    obtain ⟨n, rfl⟩ := Int.eq_ofNat_of_zero_le b1
    obtain ⟨y, rfl⟩ := Int.eq_ofNat_of_zero_le b3
    by_cases hlt : (s.size : Int) - y < n
    · rw [if_pos hlt] at hr
      obtain ⟨rfl, rfl, rfl⟩ : [] = t ∧ 0 = z ∧ 2 = e := by simpa using hr
      clear hr
      go_enter Tryd.func31, Tryd.ntmps31
      go_wp2_with (refine HC.out.mono ?_; rintro e w' ⟨rfl, rfl⟩)
      go_ret3
      exact ⟨rfl, rfl⟩
    · rw [if_neg hlt] at hr
      have h1 : y + n ≤ s.size := by omega
      have hr' : ((s.data.toList.drop y).take n, (y : Int) + n, (0 : Int)) = (t, z, e) := by simpa using hr
      obtain ⟨rfl, rfl, rfl⟩ : (s.data.toList.drop y).take n = t ∧ (y : Int) + n = z ∧ 0 = e := by simpa using hr'
      clear hr hr'
      go_enter Tryd.func31, Tryd.ntmps31
      go_wp2_with (refine HC.out.mono ?_; rintro e w' ⟨rfl, rfl⟩)
      go_ret3
      exact ⟨ret_sii (cut_mk s y n) rfl rfl, rfl⟩
  · have he' : ((e' : Int) != 0) = true := by simpa using he
    rw [if_pos he] at hr
    obtain ⟨rfl, rfl, rfl⟩ : [] = t ∧ 0 = z ∧ e' = e := by simpa using hr
    clear hr he b6
    go_enter Tryd.func31, Tryd.ntmps31
    go_wp2_with (refine HC.out.mono ?_; rintro e w' ⟨rfl, rfl⟩)
    go_ret3
    exact ⟨rfl, rfl⟩
end Go.Proofs.YtilbmbddocimkaaDoor

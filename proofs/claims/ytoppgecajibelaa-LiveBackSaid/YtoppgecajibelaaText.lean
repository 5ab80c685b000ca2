/-
  What the readers of texts and blocks answer, call by call, as plain functions of their arguments.
-/
import Derived.Test.YtoppgecajibelaaNum
import Derived.OwnWalk
import Derived.Laws.IdiomStrings
import Derived.Deep.LoopGhost
import Derived.Lib.Strings
namespace Go.Proofs.Ytoppgecajibelaa
open Go.RowKit

theorem Try.infoB : (Try.prog.info? 5).map (fun i => (i.zero, i.size, i.bytes)) = some (some (.int .u8 0), 1, 1) := by kernel_rfl

theorem ret_sii {s1 s2 : ByteArray} {a b c d : Int} (h1 : s1 = s2) (h2 : a = b) (h3 : c = d) : Ending.returned (.tuple #[.string s1, .int .i64 a, .int .i64 c]) = Ending.returned (.tuple #[.string s2, .int .i64 b, .int .i64 d]) := by rw [h1, h2, h3]
theorem mk_of {s : ByteArray} {l : List UInt8} (h : s.data.toList = l) : s = ⟨l.toArray⟩ := by
  subst h
  cases s
  simp
theorem cut_mk (s : ByteArray) (y n : Nat) : s.extract y (y + n) = ⟨((s.data.toList.drop y).take n).toArray⟩ := by
  apply mk_of
  rw [Lib.extract_data, Nat.add_sub_cancel_left]

/-- Bytes as cells. -/
def bytesV (l : List UInt8) : List Value := l.map (fun c => .int .u8 (c.toNat : Int))
theorem bytesV_snoc (l : List UInt8) (c : UInt8) : bytesV l ++ [.int .u8 (c.toNat : Int)] = bytesV (l ++ [c]) := by simp [bytesV]
theorem bytesV_length (l : List UInt8) : (bytesV l).length = l.length := by simp [bytesV]

/-- The slice v is the call's own, from block B on, and holds these bytes. -/
def OwnB (w : World) (B : Nat) (v : Value) (l : List UInt8) : Prop := w.ownsRow B 5 1 v l.length (bytesV l)

theorem own_conv {w : World} {B : Nat} {v : Value} {l : List UInt8} (h : OwnB w B v l) :
    (convert 47 9 v).run Try.prog w = .ok (.string ⟨l.toArray⟩) w := by
  have hown : w.ownsRow B 5 1 v l.length (bytesV l) := h
  rcases h.2 with ⟨rfl, h0⟩ | ⟨g, cap, cur, rfl, hg, hh, hnc, hcp, hcs, htake⟩
  · obtain rfl : l = [] := List.length_eq_zero_iff.1 h0
    rw [run_convert_bytes_string w 47 9 5 none 0 0 Try.underlying47 Try.underlying5 Try.underlying9]
    simp [Conv.bytesToString]
    rfl
  · have hcells : ∀ j (hj : j < l.length), w.cell? ((⟨g, 0, none⟩ : Addr).add j) = some (.int .u8 (l[j].toNat : Int)) := fun j hj => by
      rw [Addr.add_lit, Nat.zero_add, hown.cellAt j (by omega)]
      simp [bytesV, hj]
    exact run_convert_bytes_back (P := Try.prog) w 47 9 5 ⟨g, 0, none⟩ cap l Try.underlying47 Try.underlying5 Try.underlying9 hcells

/-- Behind an append of one byte. -/
theorem own_push {w wr w1 : World} {B : Nat} {v v' : Value} {l : List UInt8} {c : UInt8} {o : Obj} (hB : B ≤ wr.heap.size) (h : OwnB wr B v l) (hb : Below B w wr)
    (h1 : w1.ownsRow B 5 1 v' (l.length + 1) (bytesV l ++ [.int .u8 (c.toNat : Int)])) (hg : (wr.alloc o).grownBy w1 v.ownBlock) :
    OwnB w1 B v' (l ++ [c]) ∧ Below B w w1 := by
  have hown : wr.ownsRow B 5 1 v l.length (bytesV l) := h
  refine ⟨?_, (hb.alloc hB o).grown hg (by simp; omega) (fun j hj => (hown.lt j hj).1)⟩
  unfold OwnB
  rw [bytesV_snoc] at h1
  simpa using h1

theorem drop_cons (s : ByteArray) (k : Nat) (h : k < s.size) : s.data.toList.drop k = s[k] :: s.data.toList.drop (k + 1) := by
  have hl : k < s.data.toList.length := by simpa using h
  rw [List.drop_eq_getElem_cons hl]
  rfl
theorem drop_all (s : ByteArray) (k : Nat) (h : s.size ≤ k) : s.data.toList.drop k = [] := by
  apply List.drop_of_length_le
  simpa using h
theorem rdText_byte (c : UInt8) (t out : List UInt8) (k : Nat) (h : 0 < c.toNat) : Pl.rdText (c :: t) out k = Pl.rdText t (out ++ [c]) (k + 1) := by
  have hc : c ≠ 0 := by intro e; subst e; simp at h
  rw [Pl.rdText]
  · intro e; exact fun h' => absurd e hc
  · intro d t' e; exact absurd e hc

theorem rdCount_bd (l : List UInt8) (n z e : Int) (h : Pl.rdCount l = (n, z, e)) :
    (0 ≤ n ∧ n ≤ 9223372036854775807) ∧ (0 ≤ z ∧ z ≤ l.length) ∧ (e = 0 ∨ e = 2 ∨ e = 3) ∧ (e ≠ 0 → n = 0 ∧ z = 0) := by
  obtain ⟨n', z', e', hw⟩ : ∃ n z e, Pl.rdNum l = (n, z, e) := ⟨_, _, _, rfl⟩
  have hb := rdNum_bd _ _ _ _ hw
  unfold Pl.rdCount at h
  rw [hw] at h
  by_cases hn : n' < 0
  · rw [if_pos hn] at h
    obtain ⟨rfl, rfl, rfl⟩ : 0 = n ∧ 0 = z ∧ 3 = e := by simpa using h
    exact ⟨by omega, by omega, by omega, by omega⟩
  · rw [if_neg hn] at h
    obtain ⟨rfl, rfl, rfl⟩ : n' = n ∧ z' = z ∧ e' = e := by simpa using h
    omega

end Go.Proofs.Ytoppgecajibelaa

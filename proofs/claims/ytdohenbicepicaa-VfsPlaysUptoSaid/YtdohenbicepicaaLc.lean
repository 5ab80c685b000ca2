/-
  The program's disk among a statement's own memory: its calls, one behind the other (made by gen_xlc.py).
-/
import Derived.Test.YtdohenbicepicaaLb
namespace Go.Proofs.Ytdohenbicepicaa
open Go.RowKit Go.Maps

/-- The disk D lies at p, in memory that is new since w0; c calls have been made. -/
def St (w0 w : World) (p : Nat) (D : Vf.Dk) (c : Nat) : Prop := PA w p D (fun k => w0.heap.size ≤ k ∧ k < w.heap.size) ∧ Vf.OkU D c 1048576 ∧ Below w0.heap.size w0 w
theorem St.step {w0 w w' : World} {p : Nat} {D : Vf.Dk} {r : Int × Vf.Dk} {c c' : Nat} {e : Ending} (h : St w0 w p D c) (h2 : PPost w p (fun k => w0.heap.size ≤ k ∧ k < w.heap.size) r e w') (hok : Vf.OkU r.2 c' 1048576) : e = .returned (.int .i64 r.1) ∧ St w0 w' p r.2 c' := by
  obtain ⟨h1, h3, h4⟩ := h
  obtain ⟨he, hA, hK⟩ := h2
  exact ⟨he, hA.more (fun _ hk => by rcases hk with hk | hk <;> (have := hK.size; have := h4.size; omega)) (fun _ hk => hk.2), hok, KeptF.below h4 hK (fun k hk => hk.1) h4.size⟩
theorem St.keep {w0 w w' : World} {p : Nat} {D : Vf.Dk} {c : Nat} (h : St w0 w p D c) (hb : Below w.heap.size w w') : St w0 w' p D c :=
  ⟨(h.1.keep (fun k hk => hb.block k hk.2) hb.size).more (fun _ hk => ⟨hk.1, Nat.lt_of_lt_of_le hk.2 hb.size⟩) (fun _ hk => hk.2), h.2.1, h.2.2.trans (hb.mono h.2.2.size)⟩
theorem newSt (w0 w : World) (hb : Below w0.heap.size w0 w) : Calls Try.prog 8 #[] w fun e w' => ∃ p, e = .returned (.pointer (some ⟨p, 0, none⟩)) ∧ St w0 w' p Vf.new 0 := by
  refine (newP_any w).mono ?_
  rintro e w' ⟨p, rfl, _, hA, hB⟩
  refine ⟨p, rfl, hA.more (fun _ hk => ⟨Nat.le_trans hb.size hk.1, hk.2⟩) (fun _ hk => hk.2), Vf.okU_new _, hb.trans (hB.mono hb.size)⟩
theorem cm_le {c : Nat} (h : c ≤ 1048576) : c * 1048576 ≤ 1099511627776 := by omega
theorem St.create {w0 w : World} {p : Nat} {D : Vf.Dk} {c : Nat} (h : St w0 w p D c) (hc : c ≤ 1048576) (s : ByteArray) (hs : s.size ≤ 9223372036854775807) :
    Calls Try.prog 13 #[.pointer (some ⟨p, 0, none⟩), .string s] w fun e w' => e = .returned (.int .i64 (Vf.create D s).1) ∧ St w0 w' p (Vf.create D s).2 (c + 1) :=
  (createP_any w p D _ c 1048576 s h.1 h.2.1.ok hc hs).mono fun _ _ h2 => h.step h2 (h.2.1.create s)
theorem St.append {w0 w : World} {p : Nat} {D : Vf.Dk} {c : Nat} (h : St w0 w p D c) (hc : c ≤ 1048576) (s data : ByteArray) (hs : s.size ≤ 9223372036854775807) (hd : data.size ≤ 1048576) :
    Calls Try.prog 14 #[.pointer (some ⟨p, 0, none⟩), .string s, .string data] w fun e w' => e = .returned (.int .i64 (Vf.append D s data).1) ∧ St w0 w' p (Vf.append D s data).2 (c + 1) :=
  (appendP_any w p D _ c 1048576 s data h.1 h.2.1.ok hc (cm_le hc) hs (by omega)).mono fun _ _ h2 => h.step h2 (h.2.1.change s data false hd)
theorem St.sync {w0 w : World} {p : Nat} {D : Vf.Dk} {c : Nat} (h : St w0 w p D c) (hc : c ≤ 1048576) (s : ByteArray) (hs : s.size ≤ 9223372036854775807) :
    Calls Try.prog 15 #[.pointer (some ⟨p, 0, none⟩), .string s] w fun e w' => e = .returned (.int .i64 (Vf.sync D s).1) ∧ St w0 w' p (Vf.sync D s).2 (c + 1) :=
  (syncP_any w p D _ c 1048576 s h.1 h.2.1.ok hc hs).mono fun _ _ h2 => h.step h2 (h.2.1.change s ByteArray.empty true (Nat.zero_le _))
theorem St.rename {w0 w : World} {p : Nat} {D : Vf.Dk} {c : Nat} (h : St w0 w p D c) (hc : c ≤ 1048576) (s t : ByteArray) (hs : s.size ≤ 9223372036854775807) (ht : t.size ≤ 9223372036854775807) :
    Calls Try.prog 17 #[.pointer (some ⟨p, 0, none⟩), .string s, .string t] w fun e w' => e = .returned (.int .i64 (Vf.rename D s t).1) ∧ St w0 w' p (Vf.rename D s t).2 (c + 1) :=
  (renameP_any w p D _ c 1048576 s t h.1 h.2.1.ok hc hs ht).mono fun _ _ h2 => h.step h2 (h.2.1.rename s t)
theorem St.remove {w0 w : World} {p : Nat} {D : Vf.Dk} {c : Nat} (h : St w0 w p D c) (hc : c ≤ 1048576) (s : ByteArray) (hs : s.size ≤ 9223372036854775807) :
    Calls Try.prog 24 #[.pointer (some ⟨p, 0, none⟩), .string s] w fun e w' => e = .returned (.int .i64 (Vf.remove D s).1) ∧ St w0 w' p (Vf.remove D s).2 (c + 1) :=
  (removeP_any w p D _ c 1048576 s h.1 h.2.1.ok hc hs).mono fun _ _ h2 => h.step h2 (h.2.1.remove s)
theorem St.syncDir {w0 w : World} {p : Nat} {D : Vf.Dk} {c : Nat} (h : St w0 w p D c) (hc : c ≤ 1048576) :
    Calls Try.prog 16 #[.pointer (some ⟨p, 0, none⟩)] w fun e w' => e = .returned (.int .i64 (Vf.syncDir D).1) ∧ St w0 w' p (Vf.syncDir D).2 (c + 1) :=
  (syncDirP_any w p D _ c 1048576 h.1 h.2.1.ok hc).mono fun _ _ h2 => h.step h2 (h.2.1.syncDir)
theorem St.restart {w0 w : World} {p : Nat} {D : Vf.Dk} {c : Nat} (h : St w0 w p D c) (hc : c ≤ 1048576) (loss : Int) (hl : -9223372036854775808 ≤ loss ∧ loss ≤ 9223372036854775807) :
    Calls Try.prog 18 #[.pointer (some ⟨p, 0, none⟩), .int .i64 loss] w fun e w' => e = .returned (.int .i64 (Vf.restart D loss).1) ∧ St w0 w' p (Vf.restart D loss).2 (c + 1) :=
  (restartP_any w p D _ c 1048576 loss h.1 h.2.1.ok hc (cm_le hc) hl).mono fun _ _ h2 => h.step h2 (h.2.1.restart loss)
theorem St.arm {w0 w : World} {p : Nat} {D : Vf.Dk} {c : Nat} (h : St w0 w p D c) (n e1 : Int) (hn : n ≤ 9223372036854775807) :
    Calls Try.prog 20 #[.pointer (some ⟨p, 0, none⟩), .int .i64 n, .int .i64 e1] w fun e w' => e = .returned (.int .i64 (Vf.arm D n e1).1) ∧ St w0 w' p (Vf.arm D n e1).2 c :=
  (armP_any w p D _ n e1 h.1).mono fun _ _ h2 => h.step h2 (h.2.1.arm n e1 hn)
theorem St.calm {w0 w : World} {p : Nat} {D : Vf.Dk} {c : Nat} (h : St w0 w p D c) :
    Calls Try.prog 23 #[.pointer (some ⟨p, 0, none⟩)] w fun e w' => e = .returned (.tuple #[]) ∧ St w0 w' p (Vf.calm D) c := by
  refine (calmP_any w p D _ h.1).mono ?_
  rintro e w' ⟨rfl, hA, hK, hs⟩
  exact ⟨rfl, hA.more (fun _ hk => by omega) (fun _ hk => hk.2), h.2.1.calm, KeptF.below h.2.2 hK (fun k hk => hk.1) h.2.2.size⟩
theorem St.read {w0 w : World} {p : Nat} {D : Vf.Dk} {c : Nat} (h : St w0 w p D c) (s : ByteArray) (hs : s.size ≤ 9223372036854775807) :
    Calls Try.prog 19 #[.pointer (some ⟨p, 0, none⟩), .string s] w fun e w' => e = .returned (.tuple #[.string (Vf.read D s).1, .int .i64 (Vf.read D s).2]) ∧ St w0 w' p D c :=
  (readP_any w p D _ s h.1 hs).mono fun _ _ h2 => ⟨h2.1, h.keep h2.2⟩
theorem St.list {w0 w : World} {p : Nat} {D : Vf.Dk} {c : Nat} (h : St w0 w p D c) (hc : c ≤ 1048576) :
    Calls Try.prog 22 #[.pointer (some ⟨p, 0, none⟩)] w fun e w' => ∃ a cap, e = .returned (.slice a (Vf.list D).length cap) ∧ OwnS w' w.heap.size (.slice a (Vf.list D).length cap) (Vf.list D) ∧ St w0 w' p D c := by
  refine (listP_any w p D _ c 1048576 h.1 h.2.1.ok hc).mono ?_
  rintro e w' ⟨v, rfl, h2, h3⟩
  obtain ⟨a, cap, rfl⟩ := ownsRow_form h2
  exact ⟨a, cap, rfl, h2, h.keep h3⟩
theorem St.steps {w0 w : World} {p : Nat} {D : Vf.Dk} {c : Nat} (h : St w0 w p D c) :
    Calls Try.prog 25 #[.pointer (some ⟨p, 0, none⟩)] w fun e w' => e = .returned (.int .i64 (D.steps : Int)) ∧ w = w' := stepsP_any w p D _ h.1
theorem St.down {w0 w : World} {p : Nat} {D : Vf.Dk} {c : Nat} (h : St w0 w p D c) :
    Calls Try.prog 21 #[.pointer (some ⟨p, 0, none⟩)] w fun e w' => e = .returned (.bool D.down) ∧ w = w' := downP_any w p D _ h.1
theorem St.create_to {w0 w : World} {p : Nat} {D : Vf.Dk} {c : Nat} (h : St w0 w p D c) (hc : c ≤ 1048576) (s : ByteArray) (hs : s.size ≤ 9223372036854775807) {v : Int} {D' : Vf.Dk} (he : Vf.create D s = (v, D')) :
    Calls Try.prog 13 #[.pointer (some ⟨p, 0, none⟩), .string s] w fun e w' => e = .returned (.int .i64 v) ∧ St w0 w' p D' (c + 1) := by
  have h2 := h.create hc s hs
  rw [he] at h2
  exact h2
theorem St.append_to {w0 w : World} {p : Nat} {D : Vf.Dk} {c : Nat} (h : St w0 w p D c) (hc : c ≤ 1048576) (s data : ByteArray) (hs : s.size ≤ 9223372036854775807) (hd : data.size ≤ 1048576) {v : Int} {D' : Vf.Dk} (he : Vf.append D s data = (v, D')) :
    Calls Try.prog 14 #[.pointer (some ⟨p, 0, none⟩), .string s, .string data] w fun e w' => e = .returned (.int .i64 v) ∧ St w0 w' p D' (c + 1) := by
  have h2 := h.append hc s data hs hd
  rw [he] at h2
  exact h2
theorem St.sync_to {w0 w : World} {p : Nat} {D : Vf.Dk} {c : Nat} (h : St w0 w p D c) (hc : c ≤ 1048576) (s : ByteArray) (hs : s.size ≤ 9223372036854775807) {v : Int} {D' : Vf.Dk} (he : Vf.sync D s = (v, D')) :
    Calls Try.prog 15 #[.pointer (some ⟨p, 0, none⟩), .string s] w fun e w' => e = .returned (.int .i64 v) ∧ St w0 w' p D' (c + 1) := by
  have h2 := h.sync hc s hs
  rw [he] at h2
  exact h2
theorem St.rename_to {w0 w : World} {p : Nat} {D : Vf.Dk} {c : Nat} (h : St w0 w p D c) (hc : c ≤ 1048576) (s t : ByteArray) (hs : s.size ≤ 9223372036854775807) (ht : t.size ≤ 9223372036854775807) {v : Int} {D' : Vf.Dk} (he : Vf.rename D s t = (v, D')) :
    Calls Try.prog 17 #[.pointer (some ⟨p, 0, none⟩), .string s, .string t] w fun e w' => e = .returned (.int .i64 v) ∧ St w0 w' p D' (c + 1) := by
  have h2 := h.rename hc s t hs ht
  rw [he] at h2
  exact h2
theorem St.syncDir_to {w0 w : World} {p : Nat} {D : Vf.Dk} {c : Nat} (h : St w0 w p D c) (hc : c ≤ 1048576) {v : Int} {D' : Vf.Dk} (he : Vf.syncDir D = (v, D')) :
    Calls Try.prog 16 #[.pointer (some ⟨p, 0, none⟩)] w fun e w' => e = .returned (.int .i64 v) ∧ St w0 w' p D' (c + 1) := by
  have h2 := h.syncDir hc
  rw [he] at h2
  exact h2
theorem St.arm_to {w0 w : World} {p : Nat} {D : Vf.Dk} {c : Nat} (h : St w0 w p D c) (n e1 : Int) (hn : n ≤ 9223372036854775807) {v : Int} {D' : Vf.Dk} (he : Vf.arm D n e1 = (v, D')) :
    Calls Try.prog 20 #[.pointer (some ⟨p, 0, none⟩), .int .i64 n, .int .i64 e1] w fun e w' => e = .returned (.int .i64 v) ∧ St w0 w' p D' c := by
  have h2 := h.arm n e1 hn
  rw [he] at h2
  exact h2
end Go.Proofs.Ytdohenbicepicaa


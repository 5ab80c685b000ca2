/-
  The program's disk: Append, Sync, Rename, Remove, Read.
-/
import Derived.Test.YtdohenbicepicaaWj
namespace Go.Proofs.Ytdohenbicepicaa
open Go.RowKit Go.Maps

namespace Vf
theorem change_cf (D : Dk) (s data : ByteArray) (sy : Bool) : change D s data sy = cfR D s (D.files.modify (place D.files (find D.names s)) (fun f => chg f data sy)) D.names D.kept D.last := by
  unfold change cfR
  rw [chg_files]
theorem remove_cf (D : Dk) (s : ByteArray) : remove D s = cfR D s D.files (link D.names s 0) D.kept D.last := by
  unfold remove cfR
  rw [chg_names]
theorem rename_cf (D : Dk) (s t : ByteArray) (h : okN t = true) : rename D s t = cfR D s D.files (link (link D.names s 0) t (find D.names s)) D.kept D.last := by
  unfold rename cfR
  rw [chg_names, h, Bool.and_true]
theorem rename_bad (D : Dk) (s t : ByteArray) (h : okN t = false) : rename D s t = (1, D) := by
  unfold rename first
  rw [h, Bool.and_false]
  simp
theorem Ok.file_le {D : Dk} {c m n : Nat} (h : Ok D c m) (hn : Live D n) : (fileAt D.files n).data.size ≤ c * m := (h.files _ (fileAt_mem (h.live n hn).2)).1
end Vf

set_option maxRecDepth 100000 in
set_option maxHeartbeats 2000000 in
theorem appendP_any (w : World) (p : Nat) (D : Vf.Dk) (F : Nat → Prop) (c m : Nat) (s data : ByteArray) (hA : PA w p D F) (hok : Vf.Ok D c m) (hc : c ≤ 1048576) (hcm : c * m ≤ 1099511627776) (hs : s.size ≤ 9223372036854775807) (hd : data.size ≤ 1099511627776) :
    Calls Try.prog 14 #[.pointer (some ⟨p, 0, none⟩), .string s, .string data] w (PPost w p F (Vf.append D s data)) := by
  obtain ⟨mn, ms, φ, ρ, hA, hF, hl⟩ := hA
  have hB1 : Below w.heap.size w (w.alloc (.cells #[.string data] 9)) := (Below.refl _ _).alloc (Nat.le_refl _) _
  have ha : (w.alloc (.cells #[.string data] 9)).cell? ⟨w.heap.size, 0, none⟩ = some (.string data) := cell_new _ _ _ _ rfl
  generalize hw1 : w.alloc (.cells #[.string data] 9) = w3 at *
  have hA3 := hA.keep (w' := w3) fun k hk => hB1.block k (hA.lt k hk)
  have hpw := hA.row.lt
  have hl3 : ∀ k, F k → k < w3.heap.size := fun k hk => Nat.lt_of_lt_of_le (hl k hk) hB1.size
  have hCh := changeFile_append w3 p mn ms φ ρ D F s ⟨w.heap.size, 0, none⟩ (D.files.modify (Vf.place D.files (Vf.find D.names s)) (fun f => Vf.chg f data false)) D.names D.kept D.last hA3 hF hl3 (hok.fit (by omega)) hs fun ho hf w1 hp1 h1 h2 =>
    append1_any w1 p mn ms φ ρ (Vf.dec D) F (Vf.find D.names s) _ data hp1 hF (fun k hk => Nat.lt_of_lt_of_le (hl3 k hk) h2) (kept_cell ha (by show w.heap.size ≠ p; omega) h1) (fun n hn => (hok.live n hn).2) (live_name hf) (Nat.le_trans (hok.file_le (live_name hf)) hcm) hd
  rw [← Vf.change_cf] at hCh
  have HCh : Hid (Calls Try.prog 44 _ w3 (PPost w3 p F (Vf.append D s data))) := hCh
  have HB1 := Lib.hid hB1
  clear hCh hA hA3 hF hl hl3 hB1 hok hpw hcm
  go_enter Try.func14, Try.ntmps14
  go_wp2_with (go_at_call 44; go_loud ((refine HCh.out.mono ?_; rintro e1 w4 ⟨rfl, h4⟩; have H4 := Lib.hid h4; clear h4)))
  go_ret
  exact PPost.of_below HB1.out ⟨rfl, H4.out⟩

set_option maxRecDepth 100000 in
set_option maxHeartbeats 2000000 in
theorem syncP_any (w : World) (p : Nat) (D : Vf.Dk) (F : Nat → Prop) (c m : Nat) (s : ByteArray) (hA : PA w p D F) (hok : Vf.Ok D c m) (hc : c ≤ 1048576) (hs : s.size ≤ 9223372036854775807) :
    Calls Try.prog 15 #[.pointer (some ⟨p, 0, none⟩), .string s] w (PPost w p F (Vf.sync D s)) := by
  obtain ⟨mn, ms, φ, ρ, hA, hF, hl⟩ := hA
  have hCh := changeFile_sync w p mn ms φ ρ D F s (D.files.modify (Vf.place D.files (Vf.find D.names s)) (fun f => Vf.chg f ByteArray.empty true)) D.names D.kept D.last hA hF hl (hok.fit (by omega)) hs fun ho hf w1 hp1 h1 h2 =>
    sync1_any w1 p mn ms φ ρ (Vf.dec D) F (Vf.find D.names s) hp1 hF (fun k hk => Nat.lt_of_lt_of_le (hl k hk) h2) (fun n hn => (hok.live n hn).2) (live_name hf)
  rw [← Vf.change_cf] at hCh
  have HCh : Hid (Calls Try.prog 44 _ w (PPost w p F (Vf.sync D s))) := hCh
  clear hCh hA hF hl hok
  go_enter Try.func15, Try.ntmps15
  go_wp2_with (go_at_call 44; go_loud ((refine HCh.out.mono ?_; rintro e1 w4 ⟨rfl, h4⟩; have H4 := Lib.hid h4; clear h4)))
  go_ret
  exact ⟨rfl, H4.out⟩

set_option maxRecDepth 100000 in
set_option maxHeartbeats 2000000 in
theorem removeP_any (w : World) (p : Nat) (D : Vf.Dk) (F : Nat → Prop) (c m : Nat) (s : ByteArray) (hA : PA w p D F) (hok : Vf.Ok D c m) (hc : c ≤ 1048576) (hs : s.size ≤ 9223372036854775807) :
    Calls Try.prog 24 #[.pointer (some ⟨p, 0, none⟩), .string s] w (PPost w p F (Vf.remove D s)) := by
  obtain ⟨mn, ms, φ, ρ, hA, hF, hl⟩ := hA
  have hB1 : Below w.heap.size w (w.alloc (.cells #[.pointer (some ⟨p, 0, none⟩)] 23)) := (Below.refl _ _).alloc (Nat.le_refl _) _
  have hB2 := hB1.alloc hB1.size (.cells #[.string s] 9)
  have ha : ((w.alloc (.cells #[.pointer (some ⟨p, 0, none⟩)] 23)).alloc (.cells #[.string s] 9)).cell? ⟨w.heap.size, 0, none⟩ = some (.pointer (some ⟨p, 0, none⟩)) := Lib.cell?_alloc_some _ (cell_new _ _ _ _ rfl)
  have hb : ((w.alloc (.cells #[.pointer (some ⟨p, 0, none⟩)] 23)).alloc (.cells #[.string s] 9)).cell? ⟨w.heap.size + 1, 0, none⟩ = some (.string s) := cell_new _ _ _ _ (by simp)
  generalize hw1 : (w.alloc (.cells #[.pointer (some ⟨p, 0, none⟩)] 23)).alloc (.cells #[.string s] 9) = w3 at *
  have hA3 := hA.keep (w' := w3) fun k hk => hB2.block k (hA.lt k hk)
  have hpw := hA.row.lt
  have hl3 : ∀ k, F k → k < w3.heap.size := fun k hk => Nat.lt_of_lt_of_le (hl k hk) hB2.size
  have hCh := changeFile_remove w3 p mn ms φ ρ D F s ⟨w.heap.size, 0, none⟩ ⟨w.heap.size + 1, 0, none⟩ D.files (Vf.link D.names s 0) D.kept D.last hA3 hF hl3 (hok.fit (by omega)) hs fun ho hf w1 hp1 h1 h2 =>
    remove1_any w1 p mn ms φ ρ (Vf.dec D) F _ _ _ s hp1 hF (fun k hk => Nat.lt_of_lt_of_le (hl3 k hk) h2) (kept_cell ha (by show w.heap.size ≠ p; omega) h1) (kept_cell hb (by show w.heap.size + 1 ≠ p; omega) h1) (okN_size ho)
  rw [← Vf.remove_cf] at hCh
  have HCh := Lib.hid hCh
  have HB2 := Lib.hid hB2
  clear hCh hA hA3 hF hl hl3 hB1 hB2 hok hpw
  go_enter Try.func24, Try.ntmps24
  go_wp2_with (go_at_call 44; go_loud ((refine HCh.out.mono ?_; rintro e1 w4 ⟨rfl, h4⟩; have H4 := Lib.hid h4; clear h4)))
  go_ret
  exact PPost.of_below HB2.out ⟨rfl, H4.out⟩

set_option maxRecDepth 100000 in
set_option maxHeartbeats 2000000 in
theorem renameP_any (w : World) (p : Nat) (D : Vf.Dk) (F : Nat → Prop) (c m : Nat) (s t : ByteArray) (hA : PA w p D F) (hok : Vf.Ok D c m) (hc : c ≤ 1048576) (hs : s.size ≤ 9223372036854775807) (ht : t.size ≤ 9223372036854775807) :
    Calls Try.prog 17 #[.pointer (some ⟨p, 0, none⟩), .string s, .string t] w (PPost w p F (Vf.rename D s t)) := by
  have H := Lib.hid hA
  obtain ⟨mn, ms, φ, ρ, hA, hF, hl⟩ := hA
  have hB1 : Below w.heap.size w (w.alloc (.cells #[.pointer (some ⟨p, 0, none⟩)] 23)) := (Below.refl _ _).alloc (Nat.le_refl _) _
  have hB2 := hB1.alloc hB1.size (.cells #[.string s] 9)
  have hB3 := hB2.alloc hB2.size (.cells #[.string t] 9)
  have ha := Lib.cell?_alloc_some (.cells #[.string t] 9) (Lib.cell?_alloc_some (.cells #[.string s] 9) (cell_new w _ (.pointer (some ⟨p, 0, none⟩)) 23 rfl))
  have hb := Lib.cell?_alloc_some (.cells #[.string t] 9) (cell_new (w.alloc (.cells #[.pointer (some ⟨p, 0, none⟩)] 23)) (w.heap.size + 1) (.string s) 9 (by simp))
  have hg := cell_new ((w.alloc (.cells #[.pointer (some ⟨p, 0, none⟩)] 23)).alloc (.cells #[.string s] 9)) (w.heap.size + 2) (.string t) 9 (by simp)
  have hmnw := hA.now.lt
  have hsz3 : (((w.alloc (.cells #[.pointer (some ⟨p, 0, none⟩)] 23)).alloc (.cells #[.string s] 9)).alloc (.cells #[.string t] 9)).heap.size = w.heap.size + 3 := by simp
  generalize hw1 : ((w.alloc (.cells #[.pointer (some ⟨p, 0, none⟩)] 23)).alloc (.cells #[.string s] 9)).alloc (.cells #[.string t] 9) = w3 at *
  have hA3 := hA.keep (w' := w3) fun k hk => hB3.block k (hA.lt k hk)
  have hpw := hA.row.lt
  have hl3 : ∀ k, F k → k < w3.heap.size := fun k hk => Nat.lt_of_lt_of_le (hl k hk) hB3.size
  have HNm := Lib.hid (nameP_any w3 t ht)
  have HB3 := Lib.hid hB3
  by_cases hto : Vf.okN t = true
  · have hn := hok.names
    have hCh := changeFile_rename w3 p mn ms φ ρ D F s ⟨w.heap.size, 0, none⟩ ⟨w.heap.size + 1, 0, none⟩ ⟨w.heap.size + 2, 0, none⟩ D.files (Vf.link (Vf.link D.names s 0) t (Vf.find D.names s)) D.kept D.last hA3 hF hl3 (hok.fit (by omega)) hs fun ho hf w1 hp1 h1 h2 =>
      rename1_any w1 p mn ms φ ρ (Vf.dec D) F _ _ _ s t hp1 hF (fun k hk => Nat.lt_of_lt_of_le (hl3 k hk) h2) (kept_cell ha (by show w.heap.size ≠ p; omega) h1) (kept_cell hb (by show w.heap.size + 1 ≠ p; omega) h1) (kept_cell hg (by show w.heap.size + 2 ≠ p; omega) h1) ⟨by show w.heap.size < w1.heap.size; omega, by show w.heap.size ≠ mn; omega⟩ ⟨by show w.heap.size + 2 < w1.heap.size; omega, by show w.heap.size + 2 ≠ mn; omega⟩ (okN_size ho) (okN_size hto) hf (by show D.names.length ≤ _; omega)
    rw [← Vf.rename_cf D s t hto] at hCh
    have HCh := Lib.hid hCh
    rw [hto] at HNm
    clear hCh hA hA3 hF hl hl3 hB1 hB2 hB3 hok hpw hto hn hmnw hsz3
    go_enter Try.func17, Try.ntmps17
    go_wp2_with (first | (go_at_call 37; go_loud ((refine HNm.out.mono ?_; rintro e1 w1 ⟨rfl, rfl⟩))) | (go_at_call 44; go_loud ((refine HCh.out.mono ?_; rintro e1 w4 ⟨rfl, h4⟩; have H4 := Lib.hid h4; clear h4))))
    go_ret
    exact PPost.of_below HB3.out ⟨rfl, H4.out⟩
  · have hto' : Vf.okN t = false := by simpa using hto
    have HR := Lib.hid (Vf.rename_bad D s t hto')
    rw [hto'] at HNm
    clear hA hA3 hF hl hl3 hB1 hB2 hB3 hok hpw hto hto' hmnw hsz3
    go_enter Try.func17, Try.ntmps17
    go_wp2_with (first | (go_at_call 37; go_loud ((refine HNm.out.mono ?_; rintro e1 w1 ⟨rfl, rfl⟩))))
    go_ret
    rw [HR.out]
    exact PPost.same H.out HB3.out

/-- A file's bytes as a text. -/
theorem file_text {w : World} {b : Nat} {v : Value} {f : Vf.Fl} (h : FileA w b v f) : (convert 71 9 v).run Try.prog w = .ok (.string f.data) w := by
  rcases h.2.2 with ⟨h1, h2⟩ | ⟨g, cap, cur, h1, _⟩
  · have e : f.data = ByteArray.empty := by
      cases hd : f.data with
      | mk d =>
        rw [hd] at h2
        have : d = #[] := Array.eq_empty_of_size_eq_zero h2
        rw [this]
        rfl
    rw [h1, e]
    exact run_convert_bytes_nil (P := Try.prog) w 71 5 Try.underlying71 Try.underlying5 0 0 9 Try.underlying9
  · have hc := World.ownsRow.cells (g := g) h.2 (by rw [h1]; rfl)
    have hb := run_convert_bytes_back (P := Try.prog) w 71 9 5 ⟨g, 0, none⟩ cap f.data.data.toList Try.underlying71 Try.underlying5 Try.underlying9 fun j hj => hc j _ (by rw [List.getElem?_map, List.getElem?_eq_getElem hj]; rfl)
    rw [h1]
    simpa using hb

set_option maxRecDepth 100000 in
set_option maxHeartbeats 2000000 in
theorem readP_any (w : World) (p : Nat) (D : Vf.Dk) (F : Nat → Prop) (s : ByteArray) (hA : PA w p D F) (hs : s.size ≤ 9223372036854775807) :
    Calls Try.prog 19 #[.pointer (some ⟨p, 0, none⟩), .string s] w fun e' w' => e' = .returned (.tuple #[.string (Vf.read D s).1, .int .i64 (Vf.read D s).2]) ∧ Below w.heap.size w w' := by
  obtain ⟨mn, ms, φ, ρ, hA, hF, hl⟩ := hA
  have hFd := findP_any w p mn ms φ ρ D s hA hs
  obtain ⟨R, hR⟩ : ∃ R, R = Vf.read D s := ⟨_, rfl⟩
  rw [← hR]
  unfold Vf.read at hR
  unfold findR at hFd
  by_cases h1 : Vf.first D (Vf.okN s) ≠ 0
  · rw [if_pos h1] at hR hFd
    have e1 : (Vf.first D (Vf.okN s) != 0) = true := by simpa using h1
    have HFd := Lib.hid hFd
    subst hR
    clear h1 hA hF hl hFd
    generalize Vf.first D (Vf.okN s) = fe at *
    go_enter Try.func19, Try.ntmps19
    go_wp2_with (first | (go_at_call 53; go_loud ((refine HFd.out.mono ?_; rintro e1 w2 ⟨rfl, hB2⟩; have HB2 := Lib.hid hB2; clear hB2; unfold ptrV))))
    go_ret2
    exact ⟨rfl, HB2.out⟩
  · rw [if_neg h1] at hR hFd
    clear h1
    by_cases h2 : Vf.find D.names s = 0
    · rw [if_pos h2] at hR hFd
      have HFd := Lib.hid hFd
      subst hR
      clear h2 hA hF hl hFd
      go_enter Try.func19, Try.ntmps19
      go_wp2_with (first | (go_at_call 53; go_loud ((refine HFd.out.mono ?_; rintro e1 w2 ⟨rfl, hB2⟩; have HB2 := Lib.hid hB2; clear hB2; unfold ptrV))))
      go_ret2
      exact ⟨rfl, HB2.out⟩
    · rw [if_neg h2] at hR hFd
      have hf := hA.file _ (live_name h2)
      obtain ⟨a0, c0, hv⟩ := hf.form
      have HC : Hid (∀ w2, Below w.heap.size w w2 → w2.cell? ⟨φ (Vf.find D.names s), 0, none⟩ = some (.slice a0 (Vf.fileAt D.files (Vf.find D.names s)).data.size c0) ∧ (convert 71 9 (.slice a0 (Vf.fileAt D.files (Vf.find D.names s)).data.size c0)).run Try.prog w2 = .ok (.string (Vf.fileAt D.files (Vf.find D.names s)).data) w2) := by
        intro w2 hB
        have h3 : FileA w2 _ _ _ := hf.keep (hB.block _ hf.1.lt) fun k hk => hB.block k (World.ownsRow.lt hf.2 k hk).2
        have h4 := h3.1.cell 0
        have h5 := file_text h3
        rw [hv] at h4 h5
        exact ⟨h4, h5⟩
      have HFd := Lib.hid hFd
      subst hR
      clear h2 hA hF hl hFd hf hv
      generalize (Vf.fileAt D.files (Vf.find D.names s)).data = fd at *
      generalize fd.size = sz at *
      generalize φ (Vf.find D.names s) = fb at *
      go_enter Try.func19, Try.ntmps19
      go_wp2_with (first | (go_at_call 53; go_loud ((refine HFd.out.mono ?_; rintro e1 w2 ⟨rfl, hB2⟩; obtain ⟨q1, q2⟩ := HC.out w2 hB2; have HB2 := Lib.hid hB2; clear hB2; unfold ptrV))))
      go_ret2
      exact ⟨rfl, HB2.out⟩
end Go.Proofs.Ytdohenbicepicaa

/-
  The program's disk: Restart, and List.
-/
import Derived.Test.YtdohenbicepicaaWr
namespace Go.Proofs.Ytdohenbicepicaa
open Go.RowKit Go.Maps Go.Sort

set_option maxRecDepth 100000 in
set_option maxHeartbeats 4000000 in
theorem restartP_any (w : World) (p : Nat) (D : Vf.Dk) (F : Nat → Prop) (c m : Nat) (loss : Int) (hA : PA w p D F) (hok : Vf.Ok D c m) (hc : c ≤ 1048576) (hcm : c * m ≤ 1099511627776) (hloss : -9223372036854775808 ≤ loss ∧ loss ≤ 9223372036854775807) :
    Calls Try.prog 18 #[.pointer (some ⟨p, 0, none⟩), .int .i64 loss] w (PPost w p F (Vf.restart D loss)) := by
  obtain ⟨mn, ms, φ, ρ, hA, hF, hl⟩ := hA
  have hRow := Lib.hid (row_any w loss)
  have hB1 : Below w.heap.size w (w.alloc (.cells #[.int .i64 loss] 3)) := (Below.refl _ _).alloc (Nat.le_refl _) _
  have hB2 := hB1.alloc hB1.size (.cells #[.int .u64 0] 90)
  have hcl0 := Lib.cell?_alloc_some (.cells #[.int .u64 0] 90) (cell_new w _ (.int .i64 loss) 3 rfl)
  have hci0 : ((w.alloc (.cells #[.int .i64 loss] 3)).alloc (.cells #[.int .u64 0] 90)).heap[w.heap.size + 1]? = some (.cells #[.int .u64 0] 90 (0, 0)) := by
    have h := heap_alloc_new (w.alloc (.cells #[.int .i64 loss] 3)) (.cells #[.int .u64 0] 90)
    simp only [World.size_alloc] at h
    exact h
  have hsz1 : ((w.alloc (.cells #[.int .i64 loss] 3)).alloc (.cells #[.int .u64 0] 90)).heap.size = w.heap.size + 2 := by simp
  generalize hw1 : (w.alloc (.cells #[.int .i64 loss] 3)).alloc (.cells #[.int .u64 0] 90) = w1 at *
  have hA1 := hA.keep (w' := w1) fun k hk => hB2.block k (hA.lt k hk)
  have hkn : ∀ x ∈ D.kept, x.n ≠ 0 := fun x hx => by have := (hok.nums x (.inr hx)).1; omega
  have hnn : ∀ x ∈ D.names, x.n ≠ 0 := fun x hx => by have := (hok.nums x (.inl hx)).1; omega
  have hmnw := hA.now.lt
  have hLN := loseNames_any w1 p mn ms φ ρ D c m (w.heap.size + 1) ⟨w.heap.size, 0, none⟩ loss hA1 hok hc hloss hci0 hcl0 (by show w.heap.size ≠ w.heap.size + 1; omega) (by show w.heap.size ≠ mn; omega)
  obtain ⟨all, hall⟩ : ∃ all, all = Vf.allNames D.kept D.kept D.names := ⟨_, rfl⟩
  obtain ⟨N, hN⟩ : ∃ N, N = (Vf.pick D.kept D.names (Vf.u64 loss) 0 [] all).1 := ⟨_, rfl⟩
  obtain ⟨kk, hkk⟩ : ∃ kk, kk = (Vf.pick D.kept D.names (Vf.u64 loss) 0 [] all).2 := ⟨_, rfl⟩
  have hpair : Vf.pick D.kept D.names (Vf.u64 loss) 0 [] all = (N, kk) := by rw [hN, hkk]
  have hall2 : all.length ≤ 2097152 := by
    have h := Vf.allNames_len D.kept D.names D.kept
    rw [← hall] at h
    have h1 := hok.names
    have h2 := hok.kept
    omega
  have hsp := Vf.pick_spec D.kept D.names (Vf.u64 loss) all 0 [] (by rw [hall]; exact (Vf.all_spec hkn hnn hok.krise).1) (fun b hb => by cases hb) List.Pairwise.nil (fun b hb => by cases hb)
  rw [hpair] at hsp
  rw [← hall, hpair] at hLN
  have hlive : ∀ x ∈ N, Vf.Live D x.n ∧ x.n ≠ 0 ∧ Vf.okN x.name = true := by
    intro x hx
    obtain ⟨h0, h1 | h1⟩ := hsp.2.1 x hx
    · obtain ⟨z, hz, hzn, h2⟩ := Vf.find_mem (l := D.kept) (s := x.name) (by rw [← h1]; exact h0)
      exact ⟨⟨z, .inr hz, by rw [h2, ← h1]⟩, h0, by rw [← hzn]; exact (hok.nums z (.inr hz)).2.2.1⟩
    · obtain ⟨z, hz, hzn, h2⟩ := Vf.find_mem (l := D.names) (s := x.name) (by rw [← h1]; exact h0)
      exact ⟨⟨z, .inl hz, by rw [h2, ← h1]⟩, h0, by rw [← hzn]; exact (hok.nums z (.inl hz)).2.2.1⟩
  have hR : Vf.restart D loss = (0, { D with files := Vf.lose D.files (Vf.u64 loss) kk [] N, names := N, kept := N, down := false, armed := -1 }) := by
    unfold Vf.restart
    simp only [← hall, hpair]
  have hlive1 : ∀ n, Vf.Live (Vf.put D D.files N N D.last) n → Vf.Live D n := by
    rintro n ⟨x, hx | hx, rfl⟩
    · exact (hlive x hx).1
    · exact (hlive x hx).1
  -- behind the names
  have HB : Hid (∀ w2 ms', PrA w2 p mn ms' φ ρ (Vf.put D D.files N N D.last) → w1.heap.size ≤ ms' → w2.heap[w.heap.size + 1]? = some (.cells #[.int .u64 ((kk : Nat) : Int)] 90 (0, 0)) → KeptF (fun b => b = p ∨ b = mn ∨ b = w.heap.size + 1) w1 w2 →
      Calls Try.prog 52 #[.pointer (some ⟨p, 0, none⟩), .func (.func 68) #[] #[.pointer (some ⟨w.heap.size + 1, 0, none⟩), .pointer (some ⟨w.heap.size, 0, none⟩)]] w2 fun e w3 => e = .returned (.tuple #[]) ∧
        (∃ c0 c1 c2 c3 c4 c5, RowT 57 w3 p #[c0, c1, c2, c3, c4, c5]) ∧ PA (((w3.setCell ⟨p, 3, none⟩ (.bool false)).setCell ⟨p, 5, none⟩ (.int .i64 0)).setCell ⟨p, 4, none⟩ (.int .i64 0)) p { D with files := Vf.lose D.files (Vf.u64 loss) kk [] N, names := N, kept := N, down := false, armed := -1 } (FNew F w (((w3.setCell ⟨p, 3, none⟩ (.bool false)).setCell ⟨p, 5, none⟩ (.int .i64 0)).setCell ⟨p, 4, none⟩ (.int .i64 0))) ∧
        KeptF F w (((w3.setCell ⟨p, 3, none⟩ (.bool false)).setCell ⟨p, 5, none⟩ (.int .i64 0)).setCell ⟨p, 4, none⟩ (.int .i64 0))) := by
    intro w2 ms' hA2 hms2 hci2 hk2
    have hpw := hA.row.lt
    have hcl2 : w2.cell? ⟨w.heap.size, 0, none⟩ = some (.int .i64 loss) := by
      rw [World.cell?_of_block (hk2.block w.heap.size (by omega) (fun h => by rcases h with h | h | h <;> omega))]
      exact hcl0
    have hfl : ∀ n, Vf.Live (Vf.put D D.files N N D.last) n → φ n < w.heap.size := fun n hn => (hA.file n (hlive1 n hn)).1.lt
    refine (loseBytes_any w2 p mn ms' φ ρ (Vf.put D D.files N N D.last) (w.heap.size + 1) ⟨w.heap.size, 0, none⟩ loss kk hA2 rfl hsp.1 (fun x hx => ⟨(hlive x hx).2.1, (hlive x hx).2.2, (hok.live _ (hlive x hx).1).2⟩) (by have := hsp.2.2.1; simp at this; show N.length ≤ _; omega)
      (fun f hf => ⟨Nat.le_trans (hok.files f hf).1 hcm, (hok.files f hf).2.1⟩) (by have := hsp.2.2.2; simp at this; omega) hloss hci2 hcl2 (by show w.heap.size ≠ w.heap.size + 1; omega) (fun n hn => by have := hfl n hn; show w.heap.size ≠ φ n; omega)).mono ?_
    rintro e w3 ⟨rfl, ρ', hA3, hown3, hk3⟩
    have hlive3 : ∀ n, Vf.Live (Vf.put (Vf.put D D.files N N D.last) (Vf.lose D.files (Vf.u64 loss) kk [] N) N N D.last) n → Vf.Live (Vf.put D D.files N N D.last) n := fun n hn => hn
    have hs3 : w.heap.size ≤ w2.heap.size := Nat.le_trans hB2.size hk2.size
    have hFp : F p := hF p (.inl rfl)
    have hK3 : KeptF F w w3 := by
      refine ⟨hk3.os.trans (hk2.os.trans hB2.os), hk3.tape.trans (hk2.tape.trans hB2.tape), hk3.output.trans (hk2.output.trans hB2.output), Nat.le_trans hs3 hk3.size, fun k hk hf => ?_⟩
      rw [hk3.block k (by omega) (fun h => ?_), hk2.block k (by omega) (fun h => ?_), hB2.block k hk]
      · rcases h with h | h | h
        · exact hf (by rw [h]; exact hFp)
        · exact hf (by rw [h]; exact hF _ (.inr (.inl rfl)))
        · omega
      · rcases h with h | ⟨n, hn, h⟩
        · omega
        · exact hf (by rw [h]; exact hF _ (.inr (.inr (.inr ⟨n, hlive1 n hn, .inl rfl⟩))))
    have hK4 : KeptF F w (((w3.setCell ⟨p, 3, none⟩ (.bool false)).setCell ⟨p, 5, none⟩ (.int .i64 0)).setCell ⟨p, 4, none⟩ (.int .i64 0)) := ((hK3.set p 3 hFp _).set p 5 hFp _).set p 4 hFp _
    have hs4 : (((w3.setCell ⟨p, 3, none⟩ (.bool false)).setCell ⟨p, 5, none⟩ (.int .i64 0)).setCell ⟨p, 4, none⟩ (.int .i64 0)).heap.size = w3.heap.size := by rw [setCell_size, setCell_size, setCell_size]
    have hA4 := hA3.turn (w' := ((w3.setCell ⟨p, 3, none⟩ (.bool false)).setCell ⟨p, 5, none⟩ (.int .i64 0)).setCell ⟨p, 4, none⟩ (.int .i64 0)) (D' := { D with files := Vf.lose D.files (Vf.u64 loss) kk [] N, names := N, kept := N, down := false, armed := -1 })
      (((hA3.row.set 3 (.bool false)).set 5 (.int .i64 0)).set 4 (.int .i64 0)) (fun k hk => by rw [heap_other _ _ _ _ _ hk, heap_other _ _ _ _ _ hk, heap_other _ _ _ _ _ hk]) rfl rfl rfl
    refine ⟨rfl, ⟨_, _, _, _, _, _, hA3.row⟩, ⟨mn, ms', φ, ρ', hA4, ?_, ?_⟩, hK4⟩
    · intro k hk
      have hlt := hA4.lt k hk
      rcases hk with rfl | rfl | rfl | ⟨n, hn, rfl | hk⟩
      · exact .inl hFp
      · exact .inl (hF _ (.inr (.inl rfl)))
      · exact .inr ⟨by omega, hlt⟩
      · exact .inl (hF _ (.inr (.inr (.inr ⟨n, hlive1 n hn, .inl rfl⟩))))
      · rcases hown3 n k hn hk with h | h
        · exact .inl (hF _ (.inr (.inr (.inr ⟨n, hlive1 n hn, .inr h⟩))))
        · exact .inr ⟨by omega, hlt⟩
    · intro k hk
      rcases hk with hk | ⟨_, hk⟩
      · have h1 := hl k hk
        rw [hs4]
        have h2 := hk3.size
        omega
      · exact hk
  have HLN := Lib.hid hLN
  clear hA hF hl hB1 hB2 hA1 hok hsp hlive hlive1 hLN hall hN hkk hpair hkn hnn hall2 hmnw hcl0 hci0 hsz1 hcm hc
  rw [hR]
  clear hR hw1
  go_enter Try.func18, Try.ntmps18
  go_wp2_with (first | (go_at_call 50; go_loud ((refine hRow.out.mono ?_; rintro e1 w0 ⟨rfl, rfl⟩))) | (go_at_call 51; go_loud ((refine HLN.out.mono ?_; rintro e1 w2 ⟨rfl, ms', hA2, hms2, hci2, hk2⟩; have HB2 := Lib.hid (HB.out w2 ms' hA2 hms2 hci2 hk2); clear hA2 hms2 hci2 hk2))) | (go_at_call 52; go_loud ((refine HB2.out.mono ?_; rintro e1 w3 ⟨rfl, ⟨c0, c1, c2, c3, c4, c5, hr3⟩, hP3, hK3⟩; have k3 : w3.cell? ⟨p, 3, none⟩ = some c3 := hr3.cell 3; have g3 := hr3.frozen 3; have hCa := Lib.hid (calmP_row (w3.setCell ⟨p, 3, none⟩ (.bool false)) p _ _ _ _ _ _ (hr3.set 3 _)); have HP3 := Lib.hid (And.intro hP3 hK3); clear hP3 hK3 hr3))) | (go_at_call 23; go_loud ((refine hCa.out.mono ?_; rintro e1 w4 ⟨rfl, rfl⟩))))
  go_ret
  exact ⟨rfl, HP3.out.1, HP3.out.2⟩

theorem ownS_nil (w : World) (B : Nat) : OwnS w B (.slice none 0 0) [] := World.ownsRow_nil _ _ _ _
set_option maxRecDepth 100000 in
set_option maxHeartbeats 2000000 in
theorem listP_any (w : World) (p : Nat) (D : Vf.Dk) (F : Nat → Prop) (c m : Nat) (hA : PA w p D F) (hok : Vf.Ok D c m) (hc : c ≤ 1048576) :
    Calls Try.prog 22 #[.pointer (some ⟨p, 0, none⟩)] w fun e' w' => ∃ v', e' = .returned v' ∧ OwnS w' w.heap.size v' (Vf.list D) ∧ Below w.heap.size w w' := by
  obtain ⟨mn, ms, φ, ρ, hA, hF, hl⟩ := hA
  have hRf := Lib.hid (refusalP_none w p D _ _ _ _ _ hA.row)
  have d0 : w.cell? ⟨p, 0, none⟩ = some (.map (some mn)) := hA.row.cell 0
  have hB1 : Below w.heap.size w (w.alloc (.cells #[.map (some mn)] 55)) := (Below.refl _ _).alloc (Nat.le_refl _) _
  have hcells : ∀ j, j < 1 → (w.alloc (.cells #[.map (some mn)] 55)).cell? ⟨w.heap.size, j, none⟩ = some (.map (some mn)) := by
    intro j hj
    obtain rfl : j = 0 := by omega
    exact cell_new _ _ _ _ rfl
  have hnum : ∀ x ∈ D.names, x.n ≠ 0 := fun x hx => by have := (hok.nums x (.inl hx)).1; omega
  have hnl := hok.names
  have hR := risingP_any (w.alloc (.cells #[.map (some mn)] 55)) w.heap.size 1 1048576 (fun _ => mn) (fun _ => Vf.leads φ D.names) (by omega) (by omega) hcells (by simp) (fun j _ => (hA.now.keep (hB1.block _ hA.now.lt)).mono (by omega))
  have hR2 : Hid (Calls Try.prog 55 #[.slice (some ⟨w.heap.size, 0, none⟩) 1 1] (w.alloc (.cells #[.map (some mn)] 55)) fun e w' => ∃ v, e = .returned v ∧ OwnS w' w.heap.size v (D.names.map (·.name)) ∧ Below w.heap.size w w') := by
    refine hR.mono ?_
    rintro e1 w1 ⟨v1, L1, rfl, hrow1, hp1, hm1, hb1⟩
    have hL1 : L1 = D.names.map (fun a => a.name.data.toList) := by
      refine rising_one hp1 (List.pairwise_map.2 (List.Pairwise.imp (fun {a b} h => Vf.ltB_iff.1 h) hok.nrise)) fun x => ?_
      rw [hm1 x]
      have hls : (Vf.leads φ D.names (encBA x)).isSome = true ↔ Vf.find D.names (encBA x) ≠ 0 := by
        unfold Vf.leads
        split <;> simp_all
      rw [show (∃ i, i < 1 ∧ (Vf.leads φ D.names (encBA x)).isSome = true) ↔ (Vf.leads φ D.names (encBA x)).isSome = true from ⟨fun ⟨_, _, h⟩ => h, fun h => ⟨0, by omega, h⟩⟩, hls, Vf.find_name hnum]
      constructor
      · rintro ⟨a, ha, hn⟩
        exact List.mem_map.2 ⟨a, ha, by rw [hn]; simp [encBA]⟩
      · intro hx
        obtain ⟨a, ha, hx⟩ := List.mem_map.1 hx
        refine ⟨a, ha, ?_⟩
        subst hx
        cases a.name
        simp [encBA]
    subst hL1
    have he : (D.names.map (fun a => a.name.data.toList)).map encStr = strsV (D.names.map (·.name)) := by
      unfold strsV
      rw [List.map_map, List.map_map]
      exact List.map_congr_left fun a _ => by show encStr a.name.data.toList = _; simp
    rw [he, List.length_map] at hrow1
    refine ⟨v1, rfl, ?_, hB1.trans ⟨hb1.os, hb1.tape, hb1.output, hb1.size, fun k hk => hb1.block k (by simp; omega)⟩⟩
    unfold OwnS
    rw [List.length_map]
    exact ownsRow_base hrow1 (by simp)
  obtain ⟨R, hRR⟩ : ∃ R, R = Vf.list D := ⟨_, rfl⟩
  rw [← hRR]
  unfold Vf.list at hRR
  clear hA hF hl hB1 hcells hnum hnl hR hok
  by_cases h1 : Vf.first D true ≠ 0
  · have hd : D.down = true := by
      unfold Vf.first at h1
      cases hd : D.down
      · simp [hd] at h1
      · rfl
    rw [hd, if_pos rfl] at hRR
    have e1 : (Vf.first D true != 0) = true := by simpa using h1
    subst hRR
    clear h1 hR2
    generalize Vf.first D true = fe at *
    go_enter Try.func22, Try.ntmps22
    go_wp2_with (go_at_call 41; go_loud ((refine hRf.out.mono ?_; rintro e1 w1 ⟨rfl, rfl⟩)))
    go_ret
    exact ⟨_, rfl, ownS_nil _ _, Below.refl _ _⟩
  · have h1' : Vf.first D true = 0 := by simpa using h1
    rw [h1'] at hRf
    rw [(first_ok h1').2] at hRR
    simp only [Bool.false_eq_true, if_false] at hRR
    subst hRR
    clear h1 h1'
    go_enter Try.func22, Try.ntmps22
    go_wp2_with (first | (go_at_call 41; go_loud ((refine hRf.out.mono ?_; rintro e1 w1 ⟨rfl, rfl⟩))) | (go_at_call 55; go_loud ((refine hR2.out.mono ?_; rintro e1 w1 ⟨v1, rfl, ho1, hb1⟩; have HH := Lib.hid (And.intro ho1 hb1); clear ho1 hb1))))
    go_ret
    exact ⟨_, rfl, HH.out.1, HH.out.2⟩
end Go.Proofs.Ytdohenbicepicaa

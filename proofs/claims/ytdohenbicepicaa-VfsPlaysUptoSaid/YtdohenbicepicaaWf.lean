/-
  The program's disk: what its memory says behind a change of names or of a file.
-/
import Derived.Test.YtdohenbicepicaaWe
import Derived.Test.YtdohenbicepicaaVg
namespace Go.Proofs.Ytdohenbicepicaa
open Go.RowKit Go.Maps

theorem len_le_of_sub {α : Type} (l l' : List α) (hn : l.Nodup) (hs : ∀ x ∈ l, x ∈ l') : l.length ≤ l'.length := by
  classical
  induction l generalizing l' with
  | nil => simp
  | cons x t ih =>
    have h1 := List.nodup_cons.1 hn
    have h2 := ih (l'.erase x) h1.2 fun y hy => (List.mem_erase_of_ne (fun e : y = x => h1.1 (by rw [← e]; exact hy))).2 (hs y (List.mem_cons_of_mem _ hy))
    have h3 := hs x (List.mem_cons_self ..)
    rw [List.length_erase_of_mem h3] at h2
    have h4 := List.length_pos_of_mem h3
    rw [List.length_cons]
    omega
theorem MapA.tight {w : World} {b n : Nat} {F : ByteArray → Option Nat} (h : MapA w b n F) (l : List Vf.Lk) (hF : ∀ s, F s ≠ none → Vf.find l s ≠ 0) : MapA w b l.length F := by
  obtain ⟨D, hown, hs⟩ := h
  have ht := hown.tidy lawS
  obtain ⟨es, hD, hk⟩ := hown.keysOf
  obtain ⟨es2, hD2, hp⟩ := ht
  rw [hD] at hD2
  cases hD2
  subst hD
  have hlen : (es.map fun p => p.1).length ≤ (l.map fun x => keyS x.name).length := by
    refine len_le_of_sub _ _ (List.pairwise_map.2 hp) fun kl hkl => ?_
    obtain ⟨p, hpm, rfl⟩ := List.mem_map.1 hkl
    obtain ⟨key, hkey⟩ := hk p hpm
    obtain ⟨x, _, hx, _⟩ := Maps.keyOf_str Try.underlying9 hkey
    have hx' : p.1 = keyS ⟨x.toArray⟩ := by rw [hx]; simp [keyS]
    have hh : has (.map es) (keyS ⟨x.toArray⟩) = true := by
      rw [has_eq, List.any_eq_true]
      refine ⟨p, hpm, ?_⟩
      rw [hx']
      simp [keyS, Lit.sameKey]
    have h1 := (hs ⟨x.toArray⟩).1
    rw [hh] at h1
    have h2 : F ⟨x.toArray⟩ ≠ none := fun e => by rw [e] at h1; cases h1
    obtain ⟨y, hy, hyn, _⟩ := Vf.find_mem (hF _ h2)
    rw [hx', ← hyn]
    exact List.mem_map.2 ⟨y, hy, rfl⟩
  refine ⟨_, ?_, hs⟩
  obtain ⟨es', clock, hb, F', _, hD⟩ := hown
  refine ⟨es', clock, hb, F', ?_, hD⟩
  have e : es.length = es'.size := by
    have := congrArg Maps.size hD
    simpa [Maps.size, length_sorted] using this
  simp at hlen
  omega
theorem leads_some {φ : Nat → Nat} {l : List Vf.Lk} {s : ByteArray} (h : Vf.leads φ l s ≠ none) : Vf.find l s ≠ 0 := by
  unfold Vf.leads at h
  intro e
  rw [if_pos e] at h
  exact h rfl
theorem leads_congr {φ ψ : Nat → Nat} {l : List Vf.Lk} (h : ∀ x ∈ l, φ x.n = ψ x.n) (s : ByteArray) : Vf.leads φ l s = Vf.leads ψ l s := by
  unfold Vf.leads
  by_cases e : Vf.find l s = 0
  · rw [if_pos e, if_pos e]
  · rw [if_neg e, if_neg e]
    obtain ⟨x, hx, _, h2⟩ := Vf.find_mem e
    rw [← h2, h x hx]
theorem leads_link (φ : Nat → Nat) (l : List Vf.Lk) (s : ByteArray) (n : Nat) (t : ByteArray) : Vf.leads φ (Vf.link l s n) t = updF (Vf.leads φ l) s (if n = 0 then none else some (φ n)) t := by
  unfold Vf.leads updF
  rw [Vf.find_link]
  by_cases e : t = s
  · rw [if_pos e, if_pos e]
  · rw [if_neg e, if_neg e]
theorem live_name {D : Vf.Dk} {s : ByteArray} (h : Vf.find D.names s ≠ 0) : Vf.Live D (Vf.find D.names s) := by
  obtain ⟨x, hx, _, h2⟩ := Vf.find_mem h
  exact ⟨x, .inl hx, h2⟩

/-- The blocks of the disk are apart by what they hold. -/
theorem PrA.apart_row {w : World} {p mn ms : Nat} {φ : Nat → Nat} {ρ : Nat → Value} {D : Vf.Dk} (h : PrA w p mn ms φ ρ D) : mn ≠ p ∧ ms ≠ p ∧ (∀ m, Vf.Live D m → φ m ≠ p ∧ φ m ≠ mn ∧ φ m ≠ ms ∧ ∀ k, (ρ m).ownBlock = some k → k ≠ p ∧ k ≠ mn ∧ k ≠ ms) ∧ (∀ m m' k, Vf.Live D m → Vf.Live D m' → (ρ m).ownBlock = some k → k ≠ φ m') := by
  have hrow := h.row
  unfold RowT at hrow
  obtain ⟨_, ⟨es, clock, hb, _⟩, _⟩ := h.now
  obtain ⟨_, ⟨es2, clock2, hb2, _⟩, _⟩ := h.sure
  have hown : ∀ m k, Vf.Live D m → (ρ m).ownBlock = some k → ∃ cur, w.heap[k]? = some (.cells cur 5 (0, 0)) := by
    intro m k hm hk
    rcases (h.file m hm).2.2 with ⟨hv, _⟩ | ⟨g, cap, cur, hv, _, hh, _⟩
    · rw [hv] at hk; cases hk
    · rw [hv] at hk
      obtain rfl : g = k := by simpa [Value.ownBlock] using hk
      exact ⟨cur, hh⟩
  refine ⟨?_, ?_, fun m hm => ?_, fun m m' k hm hm' hk => ?_⟩
  · rintro rfl; rw [hb] at hrow; cases hrow
  · rintro rfl; rw [hb2] at hrow; cases hrow
  · have hf := (h.file m hm).1
    unfold RowT at hf
    refine ⟨?_, ?_, ?_, fun k hk => ?_⟩
    · intro e; rw [e, hrow] at hf; simp at hf
    · intro e; rw [e, hb] at hf; cases hf
    · intro e; rw [e, hb2] at hf; cases hf
    · obtain ⟨cur, hc⟩ := hown m k hm hk
      refine ⟨?_, ?_, ?_⟩
      · intro e; rw [e, hrow] at hc; simp at hc
      · intro e; rw [e, hb] at hc; cases hc
      · intro e; rw [e, hb2] at hc; cases hc
  · have hf := (h.file m' hm').1
    unfold RowT at hf
    obtain ⟨cur, hc⟩ := hown m k hm hk
    intro e
    rw [e, hf] at hc
    simp at hc

/-- A new file has come by a name. -/
theorem PrA.create {w w2 : World} {p mn ms : Nat} {φ : Nat → Nat} {ρ : Nat → Value} {D : Vf.Dk} (h : PrA w p mn ms φ ρ D) (s : ByteArray) (hlast : ∀ m, Vf.Live D m → m ≤ D.last ∧ Vf.place D.files m < D.files.length) (hfl : ∀ f ∈ D.files, f.n ≤ D.last) (g : Nat) (hg : w.heap.size ≤ g)
    (hrow : RowT 73 w2 g #[.slice none 0 0, .int .i64 0]) (hmap : MapA w2 mn (D.names.length + 1) (updF (Vf.leads φ D.names) s (some g))) (e : ∀ k, k ≠ mn → k < w.heap.size → w2.heap[k]? = w.heap[k]?) :
    PrA w2 p mn ms (fun m => if m = D.last + 1 then g else φ m) (fun m => if m = D.last + 1 then .slice none 0 0 else ρ m) (Vf.put D (D.files ++ [⟨D.last + 1, ByteArray.empty, 0⟩]) (Vf.link D.names s (D.last + 1)) D.kept (D.last + 1)) ∧
    ∀ m, Vf.Live (Vf.put D (D.files ++ [⟨D.last + 1, ByteArray.empty, 0⟩]) (Vf.link D.names s (D.last + 1)) D.kept (D.last + 1)) m → m = D.last + 1 ∨ Vf.Live D m := by
  obtain ⟨a1, a2, a3, a4⟩ := h.apart_row
  have hl : ∀ m, Vf.Live (Vf.put D (D.files ++ [⟨D.last + 1, ByteArray.empty, 0⟩]) (Vf.link D.names s (D.last + 1)) D.kept (D.last + 1)) m → m = D.last + 1 ∨ Vf.Live D m := by
    rintro m ⟨x, hx | hx, rfl⟩
    · rcases Vf.mem_link hx with ⟨_, rfl⟩ | hx
      · exact .inl rfl
      · exact .inr ⟨x, .inl hx.1, rfl⟩
    · exact .inr ⟨x, .inr hx, rfl⟩
  have hne : ∀ m, Vf.Live D m → m ≠ D.last + 1 := fun m hm => by have := (hlast m hm).1; omega
  have hnames : ∀ x ∈ D.names, (if x.n = D.last + 1 then g else φ x.n) = φ x.n := fun x hx => if_neg (hne _ ⟨x, .inl hx, rfl⟩)
  have hkept : ∀ x ∈ D.kept, (if x.n = D.last + 1 then g else φ x.n) = φ x.n := fun x hx => if_neg (hne _ ⟨x, .inr hx, rfl⟩)
  have hlt : ∀ m, Vf.Live D m → φ m < w.heap.size := fun m hm => (h.file m hm).1.lt
  refine ⟨⟨h.row.keep (e _ (fun h => a1 h.symm) h.row.lt), ?_, ?_, h.ne, fun m hm => ?_, fun m m' hm hm' => ?_, fun m m' k hm hm' => ?_⟩, hl⟩
  · have h2 := hmap.congr (G := Vf.leads (fun m => if m = D.last + 1 then g else φ m) (Vf.link D.names s (D.last + 1))) fun t => by
      rw [leads_link, if_neg (by omega), if_pos rfl]
      unfold updF
      by_cases et : t = s
      · rw [if_pos et, if_pos et]
      · rw [if_neg et, if_neg et]
        exact (leads_congr hnames t).symm
    exact h2.tight _ fun s hs => leads_some hs
  · exact (h.sure.keep (e _ (fun he => h.ne he.symm) h.sure.lt)).congr fun t => (leads_congr hkept t).symm
  · rcases hl m hm with rfl | hm
    · rw [if_pos rfl, if_pos rfl]
      have hnew : Vf.fileAt (D.files ++ [⟨D.last + 1, ByteArray.empty, 0⟩]) (D.last + 1) = ⟨D.last + 1, ByteArray.empty, 0⟩ := Vf.fileAt_new (f := ⟨D.last + 1, ByteArray.empty, 0⟩) fun f hf => by have := hfl f hf; show f.n ≠ D.last + 1; omega
      show FileA w2 g (.slice none 0 0) (Vf.fileAt (D.files ++ [⟨D.last + 1, ByteArray.empty, 0⟩]) (D.last + 1))
      rw [hnew]
      exact ⟨hrow, World.ownsRow_nil _ _ _ _⟩
    · rw [if_neg (hne m hm), if_neg (hne m hm)]
      show FileA w2 (φ m) (ρ m) (Vf.fileAt (D.files ++ [⟨D.last + 1, ByteArray.empty, 0⟩]) m)
      rw [Vf.fileAt_append_lt (hlast m hm).2]
      have hf := h.file m hm
      exact hf.keep (e _ (a3 m hm).2.1 hf.1.lt) fun k hk => e k ((a3 m hm).2.2.2 k hk).2.1 (World.ownsRow.lt hf.2 k hk).2
  · rcases hl m hm with rfl | hm <;> rcases hl m' hm' with rfl | hm'
    · intro _; rfl
    · rw [if_pos rfl, if_neg (hne m' hm')]
      intro he
      have := hlt m' hm'
      omega
    · rw [if_pos rfl, if_neg (hne m hm)]
      intro he
      have := hlt m hm
      omega
    · rw [if_neg (hne m hm), if_neg (hne m' hm')]
      exact h.inj m m' hm hm'
  · rcases hl m hm with rfl | hm <;> rcases hl m' hm' with rfl | hm'
    · intro _ _; rfl
    · rw [if_pos rfl]
      intro he
      cases he
    · rw [if_pos rfl]
      intro _ he
      cases he
    · rw [if_neg (hne m hm), if_neg (hne m' hm')]
      exact h.apart m m' k hm hm'

/-- Names have turned; each leads to a file that there was. -/
theorem PrA.names {w w2 : World} {p mn ms : Nat} {φ : Nat → Nat} {ρ : Nat → Value} {D : Vf.Dk} (h : PrA w p mn ms φ ρ D) (l : List Vf.Lk) (hsub : ∀ x ∈ l, Vf.Live D x.n) (n : Nat) (hmap : MapA w2 mn n (Vf.leads φ l)) (e : ∀ k, k ≠ mn → k < w.heap.size → w2.heap[k]? = w.heap[k]?) :
    PrA w2 p mn ms φ ρ (Vf.put D D.files l D.kept D.last) ∧ ∀ m, Vf.Live (Vf.put D D.files l D.kept D.last) m → Vf.Live D m := by
  obtain ⟨a1, a2, a3, a4⟩ := h.apart_row
  have hl : ∀ m, Vf.Live (Vf.put D D.files l D.kept D.last) m → Vf.Live D m := by
    rintro m ⟨x, hx | hx, rfl⟩
    · exact hsub x hx
    · exact ⟨x, .inr hx, rfl⟩
  refine ⟨⟨h.row.keep (e _ (fun h => a1 h.symm) h.row.lt), hmap.tight _ fun s hs => leads_some hs, h.sure.keep (e _ (fun he => h.ne he.symm) h.sure.lt), h.ne, fun m hm => ?_, fun m m' hm hm' => h.inj m m' (hl m hm) (hl m' hm'), fun m m' k hm hm' => h.apart m m' k (hl m hm) (hl m' hm')⟩, hl⟩
  have hf := h.file m (hl m hm)
  exact hf.keep (e _ (a3 m (hl m hm)).2.1 hf.1.lt) fun k hk => e k ((a3 m (hl m hm)).2.2.2 k hk).2.1 (World.ownsRow.lt hf.2 k hk).2

/-- A file has turned. -/
theorem PrA.filed {w w2 : World} {p mn ms : Nat} {φ : Nat → Nat} {ρ : Nat → Value} {D : Vf.Dk} (h : PrA w p mn ms φ ρ D) (hpl : ∀ m, Vf.Live D m → Vf.place D.files m < D.files.length) (n : Nat) (hn : Vf.Live D n) (G : Vf.Fl → Vf.Fl) (hG : ∀ f, (G f).n = f.n) (v : Value)
    (hf : FileA w2 (φ n) v (G (Vf.fileAt D.files n))) (hv : ∀ k, v.ownBlock = some k → (ρ n).ownBlock = some k ∨ w.heap.size ≤ k) (e : ∀ k, k ≠ φ n → (ρ n).ownBlock ≠ some k → k < w.heap.size → w2.heap[k]? = w.heap[k]?) :
    PrA w2 p mn ms φ (fun m => if m = n then v else ρ m) (Vf.put D (D.files.modify (Vf.place D.files n) G) D.names D.kept D.last) := by
  obtain ⟨a1, a2, a3, a4⟩ := h.apart_row
  obtain ⟨b1, b2, b3, b4⟩ := a3 n hn
  have hl : ∀ m, Vf.Live (Vf.put D (D.files.modify (Vf.place D.files n) G) D.names D.kept D.last) m → Vf.Live D m := fun m hm => hm
  refine ⟨h.row.keep (e _ (fun he => b1 he.symm) (fun he => (b4 _ he).1 rfl) h.row.lt), h.now.keep (e _ (fun he => b2 he.symm) (fun he => (b4 _ he).2.1 rfl) h.now.lt), h.sure.keep (e _ (fun he => b3 he.symm) (fun he => (b4 _ he).2.2 rfl) h.sure.lt), h.ne, fun m hm => ?_, fun m m' hm hm' => h.inj m m' hm hm', fun m m' k hm hm' => ?_⟩
  · show FileA w2 (φ m) (if m = n then v else ρ m) (Vf.fileAt (D.files.modify (Vf.place D.files n) G) m)
    rw [Vf.fileAt_modify hG (hpl m hm) (hpl n hn)]
    by_cases em : m = n
    · subst em
      rw [if_pos rfl, if_pos rfl]
      exact hf
    · rw [if_neg em, if_neg em]
      have hfm := h.file m hm
      refine hfm.keep (e _ (fun he => em (h.inj m n hm hn he)) (fun he => (a4 n m _ hn hm he) rfl) hfm.1.lt) fun k hk => e k (fun he => ?_) (fun he => em (h.apart m n k hm hn hk he)) (World.ownsRow.lt hfm.2 k hk).2
      exact a4 m n k hm hn hk he
  · by_cases em : m = n <;> by_cases em' : m' = n
    · intro _ _; rw [em, em']
    · rw [if_pos em, if_neg em']
      intro hk hk'
      rcases hv k hk with h1 | h1
      · exact em.trans (h.apart n m' k hn hm' h1 hk')
      · have := (World.ownsRow.lt (h.file m' hm').2 k hk').2; omega
    · rw [if_neg em, if_pos em']
      intro hk hk'
      rcases hv k hk' with h1 | h1
      · exact (h.apart m n k hm hn hk h1).trans em'.symm
      · have := (World.ownsRow.lt (h.file m hm).2 k hk).2; omega
    · rw [if_neg em, if_neg em']
      exact h.apart m m' k hm hm'
/-- The names that are sure are those that there are. -/
theorem PrA.sured {w w2 : World} {p mn ms ms2 : Nat} {φ : Nat → Nat} {ρ : Nat → Value} {D : Vf.Dk} (h : PrA w p mn ms φ ρ D) (hms : w.heap.size ≤ ms2) (n : Nat) (hmap : MapA w2 ms2 n (Vf.leads φ D.names)) (hrow : RowT 57 w2 p (prC mn ms2 D)) (e : ∀ k, k ≠ p → k < w.heap.size → w2.heap[k]? = w.heap[k]?) :
    PrA w2 p mn ms2 φ ρ (Vf.put D D.files D.names D.names D.last) ∧ ∀ m, Vf.Live (Vf.put D D.files D.names D.names D.last) m → Vf.Live D m := by
  obtain ⟨a1, a2, a3, a4⟩ := h.apart_row
  have hl : ∀ m, Vf.Live (Vf.put D D.files D.names D.names D.last) m → Vf.Live D m := by
    rintro m ⟨x, hx | hx, rfl⟩
    · exact ⟨x, .inl hx, rfl⟩
    · exact ⟨x, .inl hx, rfl⟩
  refine ⟨⟨hrow, h.now.keep (e _ a1 h.now.lt), hmap.tight _ fun s hs => leads_some hs, fun he => by have := h.now.lt; omega, fun m hm => ?_, fun m m' hm hm' => h.inj m m' (hl m hm) (hl m' hm'), fun m m' k hm hm' => h.apart m m' k (hl m hm) (hl m' hm')⟩, hl⟩
  have hf := h.file m (hl m hm)
  exact hf.keep (e _ (a3 m (hl m hm)).1 hf.1.lt) fun k hk => e k ((a3 m (hl m hm)).2.2.2 k hk).1 (World.ownsRow.lt hf.2 k hk).2
end Go.Proofs.Ytdohenbicepicaa

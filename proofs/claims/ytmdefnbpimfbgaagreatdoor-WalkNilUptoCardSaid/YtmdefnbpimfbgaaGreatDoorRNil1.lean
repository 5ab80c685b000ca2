/-
  Lemmas on automata, dictionaries and the walk over them, the program's calls and the given ones.
-/
import Derived.Test.YtmdefnbpimfbgaaGreatDoorS20
set_option maxRecDepth 100000
set_option maxHeartbeats 16000000
namespace Go.Proofs.YtmdefnbpimfbgaaGreatDoor
namespace F12
open Go.RowKit Go.Maps
theorem bs_self (s:ByteArray):bs s.data.toList=s:=by
 obtain ⟨⟨l⟩⟩:=s
 rfl
theorem never_told (w0:World) (nb:Nat):Told Tryz.prog w0 18 #[.pointer (some ⟨nb,0,none⟩)] (fun (_:Unit) _=>((),true)) (fun _=>65536) (fun W _=>RowT 3 W nb #[.int .i64 0]) where
 ey:=enters_of Tryz.func18 (by kernel_rfl) rfl
 less:=fun _ _=>Nat.le_succ _
 jkeep:=fun W W' s h k=>h.keep (k.kind _ _ _ _ h (by decide))
 yield:=fun W s t o h=>absurd h (by decide)
theorem sts_nil (F:Nat→Prop) (w:World):StS F w (.slice none 0 0) []:=⟨none,0,rfl,Nat.le_refl _,by omega,fun h=>absurd h (by simp)⟩
theorem not_fits_nil:¬Au.Fits []:=fun h=>absurd h.pos (by simp)
theorem nil_walk (w:World) (s:ByteArray) (av:Value) (d:List Au.St) (most:Int) (hs:s.size≤9223372036854775806) (hv:StS (fun _=>True) w av d) (hT:Tabs w):
  Calls Tryz.prog 6 #[.string s,av,.int .i64 most] w fun e w'=>e=.returned (.bool true)∧Below w.heap.size w w':=by
 have hs2:s.data.toList.length≤9223372036854775806:=by
  rw [Array.length_toList]
  exact hs
 have HCE:Hid (Calls Tryz.prog 12 #[.pointer none,.string s] w fun e w'=>e=.returned (.tuple #[.agg #[.string ByteArray.empty,.int .i64 0],.bool false])∧Below w.heap.size w w'):=by
  have:=ceil_any w (.pointer none) [] (.inr ⟨rfl,rfl⟩) s.data.toList hs2
  rw [bs_self] at this
  exact this
 have HMA:Hid (∀W,Below w.heap.size w W→Calls Tryz.prog 14 #[.pointer none,av,.int .i64 most] W fun e w'=>∃a c,e=.returned (.tuple #[.slice a 0 c,.bool false])∧Below W.heap.size W w'):=fun W hb=>by
  have hq:=match_any W (.pointer none) av [] d most (.inr ⟨rfl,rfl⟩) (hv.below hb)
  refine hq.mono ?_
  rintro e w' ⟨v,rfl,ho,hb⟩
  obtain ⟨a,c,rfl⟩:=ho.form
  have h0:(Wk.mat [] d).take most.toNat=[]:=by rw [show Wk.mat [] d=[] from rfl,List.take_nil]
  rw [h0]
  exact ⟨a,c,rfl,hb⟩
 have HOP:Hid (∀W,Calls Tryz.prog 7 #[.slice (some ⟨W.heap.size,0,none⟩) 1 1] (W.alloc (.cells #[.string ⟨#[97]⟩,.int .i64 0] 29)) fun e w'=>∃p l,e=.returned (.pointer p)∧Dt w' (.pointer p) l∧Below W.heap.size W w'):=fun W=>by
  have ho:OwnE (W.alloc (.cells #[.string ⟨#[97]⟩,.int .i64 0] 29)) W.heap.size (.slice (some ⟨W.heap.size,0,none⟩) 1 1) [([97],0)]:=⟨rfl,.inr ⟨W.heap.size,1,_,rfl,Nat.le_refl _,Go.Deep.blk_alloc_new _ _,Nat.le_refl _,by decide,rfl,rfl⟩⟩
  have hb:Below W.heap.size W (W.alloc (.cells #[.string ⟨#[97]⟩,.int .i64 0] 29)):=(Below.refl _ _).alloc (Nat.le_refl _) _
  refine (openL_any _ _ [([97],0)] ho.ens (by decide) (by decide)).mono ?_
  rintro e w' ⟨dv,rfl,h1,⟨h2,db,rfl,h3⟩ | ⟨h2,rfl⟩⟩
  ·exact ⟨_,_,rfl,h3,hb.trans (h1.mono hb.size)⟩
  ·exact ⟨_,[],rfl,.inr ⟨rfl,rfl⟩,hb.trans (h1.mono hb.size)⟩
 have HM2:Hid (∀W p l,Dt W (.pointer p) l→Calls Tryz.prog 14 #[.pointer p,.slice none 0 0,.int .i64 5] W fun e w'=>∃a c,e=.returned (.tuple #[.slice a 0 c,.bool false])∧Below W.heap.size W w'):=fun W p l h=>by
  have hq:=match_any W (.pointer p) (.slice none 0 0) l [] 5 h (sts_nil _ _)
  rw [Wk.mat_bad not_fits_nil] at hq
  refine hq.mono ?_
  rintro e w' ⟨v,rfl,ho,hb⟩
  obtain ⟨a,c,rfl⟩:=ho.form
  exact ⟨a,c,rfl,hb⟩
 have HFR:Hid (∀W,Calls Tryz.prog 10 #[.pointer none,.string s,.func (.func 18) #[] #[.pointer (some ⟨W.heap.size,0,none⟩)]] (W.alloc (.cells #[.int .i64 0] 3)) fun e w'=>e=.returned (.tuple #[])∧RowT 3 w' W.heap.size #[.int .i64 0]∧Below W.heap.size W w'):=fun W=>by
  have hb:Below W.heap.size W (W.alloc (.cells #[.int .i64 0] 3)):=(Below.refl _ _).alloc (Nat.le_refl _) _
  have r1:RowT 3 (W.alloc (.cells #[.int .i64 0] 3)) W.heap.size #[.int .i64 0]:=Go.Deep.blk_alloc_new _ _
  have:=from_any W _ (.pointer none) [] (.inr ⟨rfl,rfl⟩) s.data.toList hs2 _ _ _ _ _ (never_told W W.heap.size) () (Nat.le_refl _) hb r1
  rw [bs_self] at this
  exact this
 have HAW:Hid (∀W,Below w.heap.size w W→Calls Tryz.prog 8 #[] W fun e w'=>e=.returned (.bool true)∧Below W.heap.size W w'):=fun W hb=>awake_any W (hT.below hb)
 have HR1:Hid (∀w1,Below w.heap.size w w1→Below w.heap.size w (w1.alloc (.cells #[.string ByteArray.empty,.int .i64 0] 29))∧RowT 29 (w1.alloc (.cells #[.string ByteArray.empty,.int .i64 0] 29)) w1.heap.size #[.string ByteArray.empty,.int .i64 0]):=fun w1 hb=>⟨hb.alloc hb.size _,Go.Deep.blk_alloc_new _ _⟩
 obtain ⟨aa,ca,rfl,-⟩:=hv
 clear hs hs2 hT
 go_enter Tryz.func6,Tryz.ntmps6
 go_upto_region 2 with (go_at_call 12;go_loud ((refine HCE.out.mono ?_;rintro e1 w1 ⟨rfl,hb1⟩;have HB1:=lh hb1;clear hb1)))
 obtain ⟨hb2,hr2⟩:=HR1.out w1 HB1.out
 generalize w1.alloc (.cells #[.string ByteArray.empty,.int .i64 0] 29)=W1 at *
 generalize w1.heap.size=xb at *
 have HB2:=lh hb2
 have HX2:=lh hr2
 clear hb2 hr2
 go_upto_region 3 with (go_at_call 14;go_loud ((refine (HMA.out W1 HB2.out).mono ?_;rintro e3 w3 ⟨a3,c3,rfl,hb3⟩;have HB3:=lh (HB2.out.trans (hb3.mono HB2.out.size));have HX3:=lh (HX2.out.keep (hb3.block _ HX2.out.lt));clear hb3)))
 go_upto_region 5 with (first | (go_at_call 7;go_loud ((refine (HOP.out w3).mono ?_;rintro e4 w4 ⟨p4,l4,rfl,hd4,hb4⟩;have HD4:=lh hd4;have HB4:=lh (HB3.out.trans (hb4.mono HB3.out.size));have HX4:=lh (HX3.out.keep (hb4.block _ HX3.out.lt));clear hd4 hb4))) | (go_at_call 14;go_loud ((refine (HM2.out w4 p4 l4 HD4.out).mono ?_;rintro e5 w5 ⟨a5,c5,rfl,hb5⟩;have HB5:=lh (HB4.out.trans (hb5.mono HB4.out.size));have HX5:=lh (HX4.out.keep (hb5.block _ HX4.out.lt));clear hb5))))
 go_wp2_with (first | (go_at_call 10;go_loud ((refine (HFR.out w5).mono ?_;rintro e6 w6 ⟨rfl,hn6,hb6⟩;have HB6:=lh (HB5.out.trans (hb6.mono HB5.out.size));have HX6:=lh (HX5.out.keep (hb6.block _ HX5.out.lt));have HN6:=lh hn6;clear hn6 hb6))) | (go_at_call 8;go_loud ((refine (HAW.out w6 HB6.out).mono ?_;rintro e7 w7 ⟨rfl,hb7⟩;have hx7:=HX6.out.keep (hb7.block _ HX6.out.lt);have hn7:=HN6.out.keep (hb7.block _ HN6.out.lt);have x0:=hx7.cell 0;have x1:=hx7.cell 1;have x2:=hn7.cell 0;have HB7:=lh (HB6.out.trans (hb7.mono HB6.out.size));clear hx7 hn7 hb7))))
 go_ret
 exact ⟨rfl,HB7.out⟩
end F12
end Go.Proofs.YtmdefnbpimfbgaaGreatDoor

/-
  Lemmas on automata, dictionaries and the walk over them, the program's calls and the given ones.
-/
import Derived.Test.YtmdefnbpimfbgaaGreatDoorS1
import Derived.Lib.ValidLaws
import Derived.Lib.RuneCount
set_option maxRecDepth 100000
set_option maxHeartbeats 16000000
namespace Go.Proofs.YtmdefnbpimfbgaaGreatDoor
section
open Go.RowKit
theorem Tryz.infoB5:(Tryz.prog.info? 5).map (fun i=>(i.zero,i.size,i.bytes))=some (some (.int .u8 0),1,1):=by kernel_rfl
theorem Tryz.infoI:(Tryz.prog.info? 3).map (fun i=>(i.zero,i.size,i.bytes))=some (some (.int .i64 0),1,8):=by kernel_rfl
def bytesV5 (l:List UInt8):List Value:=l.map (fun c=>.int .u8 (c.toNat:Int))
theorem bytesV_length5 (l:List UInt8):(bytesV5 l).length=l.length:=by simp [bytesV5]
def OwnB5 (w:World) (B:Nat) (v:Value) (l:List UInt8):Prop:=w.ownsRow B 5 1 v l.length (bytesV5 l)
theorem own_conv5 {w:World} {B:Nat} {v:Value} {l:List UInt8} (h:OwnB5 w B v l):
  (convert 102 9 v).run Tryz.prog w=.ok (.string ⟨l.toArray⟩) w:=by
 have hown:w.ownsRow B 5 1 v l.length (bytesV5 l):=h
 rcases h.2 with ⟨rfl,h0⟩ | ⟨g,cap,cur,rfl,hg,hh,hnc,hcp,hcs,htake⟩
 ·obtain rfl:l=[]:=List.length_eq_zero_iff.1 h0
  rw [run_convert_bytes_string w 102 9 5 none 0 0 Tryz.underlying102 Tryz.underlying5 Tryz.underlying9]
  simp [Conv.bytesToString]
  rfl
 ·have hcells:∀j (hj:j<l.length),w.cell? ((⟨g,0,none⟩:Addr).add j)=some (.int .u8 (l[j].toNat:Int)):=fun j hj=>by
   rw [Addr.add_lit,Nat.zero_add,hown.cellAt j (by omega)]
   simp [bytesV5,hj]
  exact run_convert_bytes_back (P:=Tryz.prog) w 102 9 5 ⟨g,0,none⟩ cap l Tryz.underlying102 Tryz.underlying5 Tryz.underlying9 hcells
def intsV5 (l:List Int):List Value:=l.map (fun c=>.int .i64 c)
theorem intsV_snoc5 (l:List Int) (c:Int):intsV5 l++[.int .i64 c]=intsV5 (l++[c]):=by simp [intsV5]
def OwnI (w:World) (B:Nat) (v:Value) (l:List Int):Prop:=w.ownsRow B 3 1 v l.length (intsV5 l)
theorem ownI_push {w wr w1:World} {B:Nat} {v v':Value} {l:List Int} {c:Int} {o:Obj} (hB:B≤wr.heap.size) (h:OwnI wr B v l) (hb:Below B w wr)
  (h1:w1.ownsRow B 3 1 v' (l.length+1) (intsV5 l++[.int .i64 c])) (hg:(wr.alloc o).grownBy w1 v.ownBlock):
  OwnI w1 B v' (l++[c])∧Below B w w1:=by
 have hown:wr.ownsRow B 3 1 v l.length (intsV5 l):=h
 refine ⟨?_,(hb.alloc hB o).grown hg (by simp;omega) (fun j hj=>(hown.lt j hj).1)⟩
 unfold OwnI
 rw [intsV_snoc5] at h1
 simpa using h1
theorem ownI_cells {w:World} {B:Nat} {v:Value} {l:List Int} (h:OwnI w B v l):∃a cap,v=.slice a l.length cap∧(0<l.length→∃g,a=some ⟨g,0,none⟩∧g<w.heap.size∧∀j (hj:j<l.length),w.cell? ⟨g,j,none⟩=some (.int .i64 l[j])):=by
 have hown:w.ownsRow B 3 1 v l.length (intsV5 l):=h
 rcases h.2 with ⟨rfl,h0⟩ | ⟨g,cap,cur,rfl,hg,hh,hnc,hcp,hcs,htake⟩
 ·exact ⟨none,0,by rw [h0],fun h=>by omega⟩
 ·refine ⟨_,_,rfl,fun h=>⟨g,rfl,(hown.lt g rfl).2,fun j hj=>?_⟩⟩
  rw [hown.cellAt j (by omega)]
  simp [intsV5,hj]
def IntS (w:World) (v:Value) (xs:List Int):Prop:=
 ∃a cap,v=.slice a xs.length cap∧xs.length≤cap∧cap≤9223372036854775807∧(0<xs.length→∃g o,a=some ⟨g,o,none⟩∧g<w.heap.size∧∀j (_:j<xs.length),w.cell? ⟨g,o+j,none⟩=some (.int .i64 xs[j]))
theorem OwnI.ints {w:World} {B:Nat} {v:Value} {l:List Int} (h:OwnI w B v l) (_:l.length≤140737488355328):IntS w v l:=by
 rcases h.2 with ⟨rfl,h0⟩ | ⟨g,cap,cur,rfl,hg,hh,hnc,hcp,hcs,htake⟩
 ·exact ⟨none,0,by rw [h0],by omega,by omega,fun h=>by omega⟩
 ·have hown:w.ownsRow B 3 1 (.slice (some ⟨g,0,none⟩) l.length cap) l.length (intsV5 l):=h
  refine ⟨_,cap,rfl,hnc,by unfold maxLen at hcp;omega,fun h=>⟨g,0,rfl,(hown.lt g rfl).2,fun j hj=>?_⟩⟩
  rw [Nat.zero_add,hown.cellAt j (by omega)]
  simp [intsV5,hj]
theorem OwnI.keep {w w':World} {B B':Nat} {v:Value} {l:List Int} (h:OwnI w B v l) (hb:Below B' w w') (hB:w.heap.size≤B'):OwnI w' B v l:=by
 have hown:w.ownsRow B 3 1 v l.length (intsV5 l):=h
 refine ⟨h.1,?_⟩
 rcases h.2 with ⟨h1,h2⟩ | ⟨g,cap,cur,h1,hg,hh,hnc,hcp,hcs,htake⟩
 ·exact .inl ⟨h1,h2⟩
 ·have hlt:g<w.heap.size:=(hown.lt g (by rw [h1];rfl)).2
  exact .inr ⟨g,cap,cur,h1,hg,(hb.block g (Nat.lt_of_lt_of_le hlt hB)).trans hh,hnc,hcp,hcs,htake⟩
theorem ints_lit (w:World) (zs:List Int) (h0:zs.length≤9223372036854775807):IntS (w.alloc (.cells (intsV5 zs).toArray 3)) (.slice (some ⟨w.heap.size,0,none⟩) zs.length zs.length) zs:=by
 refine ⟨_,zs.length,rfl,Nat.le_refl _,h0,fun _=>⟨w.heap.size,0,rfl,by simp,fun j hj=>?_⟩⟩
 rw [Nat.zero_add,World.cell?_alloc_at _ _ _ _ rfl]
 simp [intsV5,hj]
end
namespace Ut
open Go.Lib
def whole (c:Int):Bool:=decide ((0≤c∧c<55296)∨(57343<c∧c<1114112))
theorem whole_iff {c:Int}:whole c=true↔((0≤c∧c<55296)∨(57343<c∧c<1114112)):=decide_eq_true_iff
def allW (l:List Int):Bool:=l.all whole
def enc (l:List Int):List UInt8:=l.flatMap encodeRune
def decGo:Nat→List UInt8→List Int
 | 0,_=>[]
 | n+1,l=>if l=[] then [] else ((decodeL l).1:Int) :: decGo n (l.drop (decodeL l).2)
def dec (l:List UInt8):List Int:=decGo l.length l
def Bad (l:List UInt8):Prop:=(decodeL l).1=65533∧(decodeL l).2=1
instance (l:List UInt8):Decidable (Bad l):=by unfold Bad;infer_instance
theorem enc_cons (c:Int) (l:List Int):enc (c :: l)=encodeRune c++enc l:=rfl
theorem enc_append (a b:List Int):enc (a++b)=enc a++enc b:=by simp [enc]
theorem enc_snoc (a:List Int) (c:Int):enc (a++[c])=enc a++encodeRune c:=by rw [enc_append];simp [enc]
theorem allW_append (a b:List Int):allW (a++b)=(allW a&&allW b):=by simp [allW]
theorem allW_cons (c:Int) (l:List Int):allW (c :: l)=(whole c&&allW l):=rfl
theorem allW_iff {l:List Int}:allW l=true↔∀c∈l,whole c=true:=List.all_eq_true
theorem decGo_nil:∀n,decGo n []=[]
 | 0=>rfl
 | _+1=>by simp [decGo]
theorem decGo_fuel:∀(n m:Nat) (l:List UInt8),l.length≤n→l.length≤m→decGo n l=decGo m l
 | 0,m,l,hn,_=>by
  have:l=[]:=List.eq_nil_of_length_eq_zero (by omega)
  subst this
  rw [decGo_nil,decGo_nil]
 | n+1,0,l,_,hm=>by
  have:l=[]:=List.eq_nil_of_length_eq_zero (by omega)
  subst this
  rw [decGo_nil,decGo_nil]
 | n+1,m+1,l,hn,hm=>by
  unfold decGo
  by_cases hne:l=[]
  ·simp [hne]
  ·have hw:=decodeL_width l
   have hl:0<l.length:=List.length_pos_iff.2 hne
   rw [if_neg hne,if_neg hne,decGo_fuel n m (l.drop (decodeL l).2) (by rw [List.length_drop];omega) (by rw [List.length_drop];omega)]
theorem dec_nil:dec []=[]:=rfl
theorem dec_step (l:List UInt8) (hne:l≠[]):dec l=((decodeL l).1:Int) :: dec (l.drop (decodeL l).2):=by
 have hl:0<l.length:=List.length_pos_iff.2 hne
 have hw:=decodeL_width l
 obtain ⟨n,hn⟩:∃n,l.length=n+1:=⟨l.length-1,by omega⟩
 unfold dec
 rw [hn]
 show (if l=[] then [] else _)=_
 rw [if_neg hne,decGo_fuel n (l.drop (decodeL l).2).length _ (by rw [List.length_drop];omega) (Nat.le_refl _)]
theorem dec_length:∀(n:Nat) (l:List UInt8),(decGo n l).length≤n
 | 0,_=>by simp [decGo]
 | n+1,l=>by
  unfold decGo
  split
  ·simp
  ·rw [List.length_cons]
   have:=dec_length n (l.drop (decodeL l).2)
   omega
theorem run_cases (c:Int) (h:whole c=true):
  (0≤c∧c≤127∧encodeRuneZ c=[c])∨(128≤c∧c≤2047∧encodeRuneZ c=[192+c/64,128+c%64]) ∨
  (((2048≤c∧c<55296)∨(57343<c∧c≤65535))∧encodeRuneZ c=[224+c/4096,128+c/64%64,128+c%64]) ∨
  (65536≤c∧c≤1114111∧encodeRuneZ c=[240+c/262144,128+c/4096%64,128+c/64%64,128+c%64]):=by
 rw [whole_iff] at h
 by_cases h1:c≤127
 ·exact .inl ⟨by omega,h1,encodeRuneZ_one (by omega) h1⟩
 by_cases h2:c≤2047
 ·exact .inr (.inl ⟨by omega,h2,encodeRuneZ_two (by omega) h2⟩)
 by_cases h3:c≤65535
 ·exact .inr (.inr (.inl ⟨by omega,encodeRuneZ_three (by omega)⟩))
 ·exact .inr (.inr (.inr ⟨by omega,by omega,encodeRuneZ_four (by omega) (by omega)⟩))
theorem byteZ (x:Int) (_h0:0≤x) (h1:x<256):(x.toNat.toUInt8).toNat=x.toNat:=by
 simp
 omega
theorem byteI (x:Int) (h0:0≤x) (h1:x<256):((x.toNat.toUInt8).toNat:Int)=x:=by
 rw [byteZ x h0 h1];omega
theorem rune_length (c:Int):1≤(encodeRune c).length∧(encodeRune c).length≤4:=by
 unfold encodeRune encodeRuneZ
 repeat' split
 all_goals simp
theorem rune_ne (c:Int):encodeRune c≠[]:=fun h=>by have:=(rune_length c).1;rw [h] at this;simp at this
theorem enc_length (l:List Int):l.length≤(enc l).length∧(enc l).length≤4*l.length:=by
 induction l with
 | nil=>simp [enc]
 | cons c t ih=>
  have:=rune_length c
  rw [enc_cons,List.length_append,List.length_cons]
  omega
theorem decode_whole (l:List UInt8):whole ((decodeL l).1:Int)=true:=by
 rw [whole_iff]
 rw [decodeL_N]
 have k0:=(l.getD 0 0).toNat_lt
 have k1:=(l.getD 1 0).toNat_lt
 have k2:=(l.getD 2 0).toNat_lt
 have k3:=(l.getD 3 0).toNat_lt
 rcases decodeN_shape l.length (l.getD 0 0).toNat (l.getD 1 0).toNat (l.getD 2 0).toNat (l.getD 3 0).toNat with ⟨c,e⟩ | ⟨c1,c2,c3,cv,e⟩ | ⟨c1,c2,c3,c4,cv,cs,e⟩ | ⟨c1,c2,c3,c4,c5,cv,cw,e⟩ | e
 all_goals (rw [e];dsimp only;omega)
theorem validD_good (l:List UInt8) (hne:l≠[]) (hb:¬Bad l):validD l=validD (l.drop (decodeL l).2):=by rw [validD_step l hne];exact if_neg hb
theorem validD_bad (l:List UInt8) (hne:l≠[]) (hb:Bad l):validD l=false:=by rw [validD_step l hne];exact if_pos hb
theorem enc_dec:∀(n:Nat) (l:List UInt8),l.length≤n→validD l=true→enc (dec l)=l∧allW (dec l)=true:=by
 intro n
 induction n with
 | zero=>
  intro l hl _
  have:l=[]:=List.eq_nil_of_length_eq_zero (by omega)
  subst this
  exact ⟨rfl,rfl⟩
 | succ n ih=>
  intro l hl hv
  by_cases hne:l=[]
  ·subst hne;exact ⟨rfl,rfl⟩
  ·by_cases hb:Bad l
   ·rw [validD_bad l hne hb] at hv;cases hv
   ·have hw:=decodeL_width l
    have hl0:0<l.length:=List.length_pos_iff.2 hne
    rw [validD_good l hne hb] at hv
    obtain ⟨i1,i2⟩:=ih (l.drop (decodeL l).2) (by rw [List.length_drop];omega) hv
    rw [dec_step l hne,enc_cons,allW_cons,i1,i2,encode_decode l hne hb,List.take_append_drop,decode_whole l]
    exact ⟨rfl,rfl⟩
end Ut
namespace Sp
open Go.Lib
def cuts:List (Int × Int × Nat):=[(0,127,0),(128,2047,1),(2048,55295,2),(57344,65535,2),(65536,1114111,3)]
def pw (t:Nat):Int:=64 ^ t
theorem pw0:pw 0=1:=rfl
theorem pw1:pw 1=64:=rfl
theorem pw2:pw 2=4096:=rfl
theorem pw3:pw 3=262144:=rfl
def turns (c last:Int):Nat→Nat→Nat
 | 0,t=>t
 | n+1,t=>if c%pw (t+1)=0∧c+(pw (t+1)-1)≤last then turns c last n (t+1) else t
def endOf (c last:Int) (tails:Nat):Int:=
 let t:=turns c last tails 0
 let l:=if t<tails then min last (c-c%pw (t+1)+(pw (t+1)-1)) else last
 (l+1)-(l+1)%pw t-1
structure Good (f l:Int) (tails t:Nat) (a b:Int):Prop where
 tl:t≤tails
 lo:f≤a
 hi:b≤l
 le:a≤b
 a0:a%pw t=0
 b0:(b+1)%pw t=0
 pre:t<tails→a/pw (t+1)=b/pw (t+1)
theorem turns_le (c last:Int):∀n t,t≤turns c last n t∧turns c last n t≤t+n
 | 0,t=>⟨Nat.le_refl _,Nat.le_refl _⟩
 | n+1,t=>by
  unfold turns
  split
  ·have:=turns_le c last n (t+1);omega
  ·omega
theorem turns_at (c last:Int):∀n t,c%pw t=0∧c+(pw t-1)≤last→c%pw (turns c last n t)=0∧c+(pw (turns c last n t)-1)≤last
 | 0,t,h=>h
 | n+1,t,h=>by
  unfold turns
  split
  ·rename_i h2;exact turns_at c last n (t+1) h2
  ·exact h
theorem turns_no (c last:Int):∀n t,turns c last n t<t+n→¬(c%pw (turns c last n t+1)=0∧c+(pw (turns c last n t+1)-1)≤last)
 | 0,t,h=>by simp [turns] at h
 | n+1,t,h=>by
  unfold turns at h ⊢
  split at h
  ·rename_i h2
   rw [if_pos h2]
   exact turns_no c last n (t+1) (by omega)
  ·rename_i h2
   rw [if_neg h2]
   exact h2
theorem endOf_good (c last f l:Int) (tails:Nat) (ht:tails≤3) (_h0:0≤c) (hf:f≤c) (hc:c≤last) (hl:last≤l):
  Good f l tails (turns c last tails 0) c (endOf c last tails)∧endOf c last tails≤last:=by
 have h1:=turns_le c last tails 0
 have h2:=turns_at c last tails 0 ⟨by rw [pw0];omega,by rw [pw0];omega⟩
 unfold endOf
 generalize turns c last tails 0=t at *
 have ht3:t=0∨t=1∨t=2∨t=3:=by omega
 by_cases hlt:t<tails
 ·rcases ht3 with rfl | rfl | rfl | rfl
  ·simp only [pw0,Nat.zero_add,pw1,hlt,if_true] at *
   refine ⟨⟨by omega,by omega,by omega,by omega,by rw [pw0];omega,by rw [pw0];omega,fun _=>by rw [Nat.zero_add,pw1];omega⟩,by omega⟩
  ·simp only [Nat.reduceAdd,pw1,pw2,hlt,if_true] at *
   refine ⟨⟨by omega,by omega,by omega,by omega,by rw [pw1];omega,by rw [pw1];omega,fun _=>by rw [pw2];omega⟩,by omega⟩
  ·simp only [Nat.reduceAdd,pw2,pw3,hlt,if_true] at *
   refine ⟨⟨by omega,by omega,by omega,by omega,by rw [pw2];omega,by rw [pw2];omega,fun _=>by rw [pw3];omega⟩,by omega⟩
  ·omega
 ·obtain rfl:t=tails:=by omega
  rcases ht3 with rfl | rfl | rfl | rfl
  all_goals
   simp only [pw0,pw1,pw2,pw3,Nat.lt_irrefl,if_false] at *
   refine ⟨⟨by omega,by omega,by omega,by omega,by simp only [pw0,pw1,pw2,pw3];omega,by simp only [pw0,pw1,pw2,pw3];omega,fun h=>absurd h (Nat.lt_irrefl _)⟩,by omega⟩
def seg (last:Int) (tails:Nat):Nat→Int→List (Int × Int)
 | 0,_=>[]
 | n+1,c=>if c≤last then (c,endOf c last tails) :: seg last tails n (endOf c last tails+1) else []
def segs (c last:Int) (tails:Nat):List (Int × Int):=seg last tails (last+1-c).toNat c
theorem seg_fuel (last:Int) (tails:Nat) (ht:tails≤3):∀n m c,0≤c→(last+1-c).toNat≤n→(last+1-c).toNat≤m→seg last tails n c=seg last tails m c
 | 0,0,c,_,_,_=>rfl
 | 0,m+1,c,_,h,_=>by unfold seg;rw [if_neg (by omega)]
 | n+1,0,c,_,_,h=>by unfold seg;rw [if_neg (by omega)]
 | n+1,m+1,c,h0,h1,h2=>by
  unfold seg
  by_cases hc:c≤last
  ·rw [if_pos hc,if_pos hc]
   obtain ⟨hg,he⟩:=endOf_good c last c last tails ht h0 (Int.le_refl _) hc (Int.le_refl _)
   have:=hg.le
   rw [seg_fuel last tails ht n m (endOf c last tails+1) (by omega) (by omega) (by omega)]
  ·rw [if_neg hc,if_neg hc]
theorem segs_step (c last:Int) (tails:Nat) (ht:tails≤3) (h0:0≤c):segs c last tails=if c≤last then (c,endOf c last tails) :: segs (endOf c last tails+1) last tails else []:=by
 by_cases hc:c≤last
 ·rw [if_pos hc]
  obtain ⟨hg,he⟩:=endOf_good c last c last tails ht h0 (Int.le_refl _) hc (Int.le_refl _)
  have:=hg.le
  unfold segs
  obtain ⟨n,hn⟩:∃n,(last+1-c).toNat=n+1:=⟨(last+1-c).toNat-1,by omega⟩
  rw [hn]
  have e:seg last tails (n+1) c=if c≤last then (c,endOf c last tails) :: seg last tails n (endOf c last tails+1) else []:=rfl
  rw [e,if_pos hc,seg_fuel last tails ht n _ (endOf c last tails+1) (by omega) (by omega) (Nat.le_refl _)]
 ·rw [if_neg hc]
  unfold segs
  rw [show (last+1-c).toNat=0 by omega]
  rfl
def pairs (lo hi:Int):List (Int × Int):=cuts.flatMap fun k=>segs (max lo k.1) (min hi k.2.1) k.2.2
def rowOf (p:Int × Int):List (Int × Int):=(encodeRuneZ p.1).zip (encodeRuneZ p.2)
def rows (lo hi:Int):List (List (Int × Int)):=(pairs lo hi).map rowOf
theorem segs_all (f l:Int) (tails:Nat) (ht:tails≤3) (hf:0≤f) (last:Int) (hl:last≤l):∀n c,f≤c→(last+1-c).toNat=n→∀p∈segs c last tails,c≤p.1∧p.2≤last∧∃t,Good f l tails t p.1 p.2:=by
 intro n
 induction n using Nat.strongRecOn with
 | _ n ih=>
  intro c hc hn p hp
  rw [segs_step c last tails ht (by omega)] at hp
  split at hp
  ·rename_i h
   obtain ⟨hg,he⟩:=endOf_good c last f l tails ht (by omega) hc h hl
   have:=hg.le
   rcases List.mem_cons.1 hp with rfl | hp
   ·exact ⟨Int.le_refl _,he,_,hg⟩
   ·obtain ⟨h1,h2⟩:=ih _ (by omega) (endOf c last tails+1) (by omega) rfl p hp
    exact ⟨by omega,h2⟩
  ·cases hp
theorem segs_hold (tails:Nat) (ht:tails≤3) (last x:Int):∀n c,0≤c→(last+1-c).toNat=n→((segs c last tails).filter fun p=>decide (p.1≤x∧x≤p.2)).length=if c≤x∧x≤last then 1 else 0:=by
 intro n
 induction n using Nat.strongRecOn with
 | _ n ih=>
  intro c hc hn
  rw [segs_step c last tails ht hc]
  by_cases h:c≤last
  ·rw [if_pos h]
   obtain ⟨hg,he⟩:=endOf_good c last c last tails ht hc (Int.le_refl _) h (Int.le_refl _)
   have:=hg.le
   have ih:=ih _ (by omega) (endOf c last tails+1) (by omega) rfl
   rw [List.filter_cons]
   by_cases hx:c≤x∧x≤endOf c last tails
   ·rw [if_pos (by simpa using hx),List.length_cons,ih,if_neg (by omega),if_pos (by omega)]
   ·rw [if_neg (by simpa using hx),ih]
    split
    ·rw [if_pos (by omega)]
    ·rw [if_neg (by omega)]
  ·rw [if_neg h,if_neg (by omega)]
   rfl
end Sp
namespace Sp
open Go.Lib
def cnt (r:List (Int × Int)):Int:=r.foldl (fun n x=>n*(x.2-x.1+1)) 1
def fits:List (Int × Int)→List UInt8→Bool
 | [],[]=>true
 | r :: rs,c :: cs=>decide (r.1≤(c.toNat:Int)∧(c.toNat:Int)≤r.2)&&fits rs cs
 | _,_=>false
def fitsZ:List (Int × Int)→List Int→Bool
 | [],[]=>true
 | r :: rs,c :: cs=>decide (r.1≤c∧c≤r.2)&&fitsZ rs cs
 | _,_=>false
theorem fits_of:∀(r:List (Int × Int)) (l:List Int),(∀x∈l,0≤x∧x<256)→fits r (l.map fun x=>x.toNat.toUInt8)=fitsZ r l
 | [],[],_=>rfl
 | [],_ :: _,_=>rfl
 | _ :: _,[],_=>rfl
 | r :: rs,c :: cs,h=>by
  have hc:=h c (List.mem_cons_self ..)
  show (decide _&&fits rs _)=(decide _&&fitsZ rs cs)
  rw [fits_of rs cs fun x hx=>h x (List.mem_cons_of_mem _ hx),Ut.byteI c hc.1 hc.2]
theorem fits_rune (r:List (Int × Int)) (c:Int):fits r (encodeRune c)=fitsZ r (encodeRuneZ c):=fits_of r _ (encodeRuneZ_byte c)
theorem digits (x:Int) (_h0:0≤x) (_h1:x≤1114111):∃x3 x2 x1 x0:Int,x=x3*262144+x2*4096+x1*64+x0∧0≤x0∧x0<64∧0≤x1∧x1<64∧0≤x2∧x2<64∧0≤x3∧x3≤4 ∧
  x/262144=x3∧x/4096%64=x2∧x/64%64=x1∧x%64=x0∧x/4096=x3*64+x2∧x/64=x3*4096+x2*64+x1:=by
 refine ⟨x/262144,x/4096%64,x/64%64,x%64,?_⟩
 omega
inductive InCut:Int→Int→Nat→Prop
 | c0:InCut 0 127 0
 | c1:InCut 128 2047 1
 | c2:InCut 2048 55295 2
 | c3:InCut 57344 65535 2
 | c4:InCut 65536 1114111 3
theorem inCut_of {k:Int × Int × Nat} (h:k∈cuts):InCut k.1 k.2.1 k.2.2:=by
 simp only [cuts,List.mem_cons,List.not_mem_nil,or_false] at h
 rcases h with rfl | rfl | rfl | rfl | rfl
 ·exact .c0
 ·exact .c1
 ·exact .c2
 ·exact .c3
 ·exact .c4
structure Row (tails:Nat) (a b:Int) (r:List (Int × Int)):Prop where
 cnt:cnt r=b-a+1
 len:r.length=tails+1
 rng:∀x∈r,0≤x.1∧x.1≤x.2∧x.2≤255
 fit:∀c,Ut.whole c=true→fitsZ r (encodeRuneZ c)=decide (a≤c∧c≤b)
theorem row0 (a b:Int) (h0:0≤a) (hb:b≤127) (hab:a≤b):Row 0 a b [(a,b)]:=by
 refine ⟨?_,rfl,?_,?_⟩
 ·show 1*(b-a+1)=_
  omega
 ·intro x hx
  obtain rfl:=List.mem_singleton.1 hx
  omega
 ·intro c hc
  rcases Ut.run_cases c hc with ⟨h1,h2,e⟩ | ⟨h1,h2,e⟩ | ⟨h1,e⟩ | ⟨h1,h2,e⟩ <;> rw [e]
  ·simp [fitsZ]
  ·simp [fitsZ];omega
  ·simp [fitsZ];omega
  ·simp [fitsZ];omega
theorem row1 (a b:Int) (h0:128≤a) (hb:b≤2047) (hab:a≤b) (h:(a/64=b/64)∨(a%64=0∧b%64=63)):Row 1 a b [(192+a/64,192+b/64),(128+a%64,128+b%64)]:=by
 refine ⟨?_,rfl,?_,?_⟩
 ·show 1*(192+b/64-(192+a/64)+1)*(128+b%64-(128+a%64)+1)=_
  rcases h with h | ⟨h1,h2⟩
  ·rw [h,show 1*(192+b/64-(192+b/64)+1)=1 by omega]
   omega
  ·rw [h1,h2]
   omega
 ·intro x hx
  simp only [List.mem_cons,List.not_mem_nil,or_false] at hx
  rcases hx with rfl | rfl
  ·dsimp only;omega
  ·dsimp only;omega
 ·intro c hc
  rcases Ut.run_cases c hc with ⟨h1,h2,e⟩ | ⟨h1,h2,e⟩ | ⟨h1,e⟩ | ⟨h1,h2,e⟩ <;> rw [e]
  ·simp [fitsZ];omega
  ·simp only [fitsZ,Bool.and_true,←Bool.decide_and]
   refine decide_eq_decide.2 ?_
   constructor
   ·rcases h with h | h <;> omega
   ·rcases h with h | h <;> omega
  ·simp [fitsZ];omega
  ·simp [fitsZ];omega
theorem row2 (a b:Int) (h0:(2048≤a∧b≤55295)∨(57344≤a∧b≤65535)) (hab:a≤b)
  (h:(a/64=b/64)∨(a/4096=b/4096∧a%64=0∧b%64=63)∨(a%64=0∧a/64%64=0∧b%64=63∧b/64%64=63)):
  Row 2 a b [(224+a/4096,224+b/4096),(128+a/64%64,128+b/64%64),(128+a%64,128+b%64)]:=by
 obtain ⟨a3,a2,a1,a0,ea,r0,r1,r2,r3,r4,r5,r6,r7,d3,d2,d1,d0,e2,e1⟩:=digits a (by omega) (by omega)
 obtain ⟨b3,b2,b1,b0,eb,s0,s1,s2,s3,s4,s5,s6,s7,f3,f2,f1,f0,g2,g1⟩:=digits b (by omega) (by omega)
 rw [d1,d0,f1,f0,e1,e2,g1,g2] at h
 refine ⟨?_,rfl,?_,?_⟩
 ·show 1*(224+b/4096-(224+a/4096)+1)*(128+b/64%64-(128+a/64%64)+1)*(128+b%64-(128+a%64)+1)=_
  rw [e2,g2,d1,f1,d0,f0]
  clear d3 d2 d1 d0 f3 f2 f1 f0 e2 e1 g2 g1
  rcases h with h | ⟨h1,h2,h3⟩ | ⟨h1,h2,h3,h4⟩
  ·obtain rfl:b3=a3:=by omega
   obtain rfl:b2=a2:=by omega
   obtain rfl:b1=a1:=by omega
   rw [show 1*(224+(b3*64+b2)-(224+(b3*64+b2))+1)=1 by omega,show 1*(128+b1-(128+b1)+1)=1 by omega]
   omega
  ·obtain rfl:b3=a3:=by omega
   obtain rfl:b2=a2:=by omega
   rw [show 1*(224+(b3*64+b2)-(224+(b3*64+b2))+1)=1 by omega,h2,h3]
   omega
  ·rw [h1,h2,h3,h4,show (128+(63:Int)-(128+0)+1)=64 by omega]
   omega
 ·intro x hx
  simp only [List.mem_cons,List.not_mem_nil,or_false] at hx
  rcases hx with rfl | rfl | rfl
  ·dsimp only;omega
  ·dsimp only;omega
  ·dsimp only;omega
 ·intro c hc
  rcases Ut.run_cases c hc with ⟨h1,h2,e⟩ | ⟨h1,h2,e⟩ | ⟨h1,e⟩ | ⟨h1,h2,e⟩ <;> rw [e]
  ·simp [fitsZ];omega
  ·simp [fitsZ];omega
  ·simp only [fitsZ,Bool.and_true,←Bool.decide_and]
   refine decide_eq_decide.2 ?_
   obtain ⟨c3,c2,c1,c0,ec,t0,t1,t2,t3,t4,t5,t6,t7,i3,i2,i1,i0,j2,j1⟩:=digits c (by omega) (by omega)
   rw [e2,g2,d1,f1,d0,f0,j2,i1,i0]
   clear d3 d2 d1 d0 f3 f2 f1 f0 e2 e1 g2 g1 i3 i2 i1 i0 j2 j1
   constructor
   ·rcases h with h | h | h <;> omega
   ·rcases h with h | h | h <;> omega
  ·simp [fitsZ];omega
theorem row3 (a b:Int) (h0:65536≤a) (hb:b≤1114111) (hab:a≤b)
  (h:(a/64=b/64)∨(a/4096=b/4096∧a%64=0∧b%64=63)∨(a/262144=b/262144∧a%64=0∧a/64%64=0∧b%64=63∧b/64%64=63) ∨
   (a%64=0∧a/64%64=0∧a/4096%64=0∧b%64=63∧b/64%64=63∧b/4096%64=63)):
  Row 3 a b [(240+a/262144,240+b/262144),(128+a/4096%64,128+b/4096%64),(128+a/64%64,128+b/64%64),(128+a%64,128+b%64)]:=by
 obtain ⟨a3,a2,a1,a0,ea,r0,r1,r2,r3,r4,r5,r6,r7,d3,d2,d1,d0,e2,e1⟩:=digits a (by omega) (by omega)
 obtain ⟨b3,b2,b1,b0,eb,s0,s1,s2,s3,s4,s5,s6,s7,f3,f2,f1,f0,g2,g1⟩:=digits b (by omega) (by omega)
 rw [d1,d0,f1,f0,e1,g1,d3,f3,d2,f2,e2,g2] at h
 refine ⟨?_,rfl,?_,?_⟩
 ·show 1*(240+b/262144-(240+a/262144)+1)*(128+b/4096%64-(128+a/4096%64)+1)*(128+b/64%64-(128+a/64%64)+1)*(128+b%64-(128+a%64)+1)=_
  rw [d3,f3,d2,f2,d1,f1,d0,f0]
  clear d3 d2 d1 d0 f3 f2 f1 f0 e2 e1 g2 g1
  rcases h with h | ⟨h1,h2,h3⟩ | ⟨h1,h2,h3,h4,h5⟩ | ⟨h1,h2,h3,h4,h5,h6⟩
  ·obtain rfl:b3=a3:=by omega
   obtain rfl:b2=a2:=by omega
   obtain rfl:b1=a1:=by omega
   rw [show 1*(240+b3-(240+b3)+1)=1 by omega,show 1*(128+b2-(128+b2)+1)=1 by omega,show 1*(128+b1-(128+b1)+1)=1 by omega]
   omega
  ·obtain rfl:b3=a3:=by omega
   obtain rfl:b2=a2:=by omega
   rw [show 1*(240+b3-(240+b3)+1)=1 by omega,show 1*(128+b2-(128+b2)+1)=1 by omega,h2,h3]
   omega
  ·obtain rfl:b3=a3:=by omega
   rw [show 1*(240+b3-(240+b3)+1)=1 by omega,h2,h3,h4,h5,show (128+(63:Int)-(128+0)+1)=64 by omega]
   omega
  ·rw [h1,h2,h3,h4,h5,h6,show (128+(63:Int)-(128+0)+1)=64 by omega]
   omega
 ·intro x hx
  simp only [List.mem_cons,List.not_mem_nil,or_false] at hx
  rcases hx with rfl | rfl | rfl | rfl
  ·dsimp only;omega
  ·dsimp only;omega
  ·dsimp only;omega
  ·dsimp only;omega
 ·intro c hc
  rcases Ut.run_cases c hc with ⟨h1,h2,e⟩ | ⟨h1,h2,e⟩ | ⟨h1,e⟩ | ⟨h1,h2,e⟩ <;> rw [e]
  ·simp [fitsZ];omega
  ·simp [fitsZ];omega
  ·simp [fitsZ];omega
  ·simp only [fitsZ,Bool.and_true,←Bool.decide_and]
   refine decide_eq_decide.2 ?_
   obtain ⟨c3,c2,c1,c0,ec,t0,t1,t2,t3,t4,t5,t6,t7,i3,i2,i1,i0,j2,j1⟩:=digits c (by omega) (by omega)
   rw [d3,f3,d2,f2,d1,f1,d0,f0,i3,i2,i1,i0]
   clear d3 d2 d1 d0 f3 f2 f1 f0 e2 e1 g2 g1 i3 i2 i1 i0 j2 j1
   constructor
   ·rcases h with h | h | h | h <;> omega
   ·rcases h with h | h | h | h <;> omega
theorem row_good {f l:Int} {tails t:Nat} {a b:Int} (hk:InCut f l tails) (h:Good f l tails t a b):Row tails a b (rowOf (a,b)):=by
 obtain ⟨tl,lo,hi,le,a0,b0,pre⟩:=h
 unfold rowOf
 have ht:t=0∨t=1∨t=2∨t=3:=by cases hk <;> omega
 cases hk
 ·rw [encodeRuneZ_one (by omega) (by omega),encodeRuneZ_one (by omega) (by omega)]
  exact row0 a b lo hi le
 ·rw [encodeRuneZ_two (by omega) (by omega),encodeRuneZ_two (by omega) (by omega)]
  refine row1 a b lo hi le ?_
  rcases ht with rfl | rfl | rfl | rfl
  ·simp only [pw0,Nat.zero_add,pw1] at *;omega
  ·simp only [pw1] at *;omega
  ·omega
  ·omega
 ·rw [encodeRuneZ_three (by omega),encodeRuneZ_three (by omega)]
  refine row2 a b (by omega) le ?_
  rcases ht with rfl | rfl | rfl | rfl
  ·simp only [pw0,Nat.zero_add,pw1] at *;omega
  ·simp only [Nat.reduceAdd,pw1,pw2] at *;omega
  ·simp only [pw2] at *;omega
  ·omega
 ·rw [encodeRuneZ_three (by omega),encodeRuneZ_three (by omega)]
  refine row2 a b (by omega) le ?_
  rcases ht with rfl | rfl | rfl | rfl
  ·simp only [pw0,Nat.zero_add,pw1] at *;omega
  ·simp only [Nat.reduceAdd,pw1,pw2] at *;omega
  ·simp only [pw2] at *;omega
  ·omega
 ·rw [encodeRuneZ_four (by omega) (by omega),encodeRuneZ_four (by omega) (by omega)]
  refine row3 a b lo hi le ?_
  rcases ht with rfl | rfl | rfl | rfl
  ·simp only [pw0,Nat.zero_add,pw1] at *;omega
  ·simp only [Nat.reduceAdd,pw1,pw2] at *;omega
  ·simp only [Nat.reduceAdd,pw2,pw3] at *;omega
  ·simp only [pw3] at *;omega
end Sp
namespace Sp
open Go.Lib
theorem cut_small {f l:Int} {tails:Nat} (h:InCut f l tails):tails≤3∧0≤f:=by cases h <;> omega
theorem pairs_all (lo hi:Int):∀p∈pairs lo hi,∃f l tails t,InCut f l tails∧Good f l tails t p.1 p.2∧lo≤p.1∧p.2≤hi:=by
 intro p hp
 obtain ⟨k,hk,hp⟩:=List.mem_flatMap.1 hp
 have hc:=inCut_of hk
 obtain ⟨h1,h2,t,hg⟩:=segs_all k.1 k.2.1 k.2.2 (cut_small hc).1 (cut_small hc).2 (min hi k.2.1) (by omega) _ (max lo k.1) (by omega) rfl p hp
 exact ⟨_,_,_,t,hc,hg,by omega,by omega⟩
theorem pairs_row {lo hi:Int} {p:Int × Int} (h:p∈pairs lo hi):∃tails,tails≤3∧Row tails p.1 p.2 (rowOf p):=by
 obtain ⟨f,l,tails,t,hc,hg,_⟩:=pairs_all lo hi p h
 exact ⟨tails,by cases hc <;> omega,row_good hc hg⟩
theorem rows_hold (lo hi c:Int) (h:Ut.whole c=true):((rows lo hi).filter fun r=>fits r (encodeRune c)).length=if lo≤c∧c≤hi then 1 else 0:=by
 unfold rows
 rw [List.filter_map,List.length_map]
 have e:(pairs lo hi).filter ((fun r=>fits r (encodeRune c)) ∘ rowOf)=(pairs lo hi).filter fun p=>decide (p.1≤c∧c≤p.2):=by
  refine List.filter_congr fun p hp=>?_
  obtain ⟨_,_,hr⟩:=pairs_row hp
  show fits (rowOf p) (encodeRune c)=_
  rw [fits_rune,hr.fit c h]
 rw [e]
 unfold pairs
 rw [List.filter_flatMap,List.length_flatMap]
 simp only [cuts,List.map_cons,List.map_nil,List.sum_cons,List.sum_nil]
 rw [segs_hold 0 (by omega) _ _ _ _ (by omega) rfl,segs_hold 1 (by omega) _ _ _ _ (by omega) rfl,segs_hold 2 (by omega) _ _ _ _ (by omega) rfl,segs_hold 2 (by omega) _ _ _ _ (by omega) rfl,segs_hold 3 (by omega) _ _ _ _ (by omega) rfl]
 rw [Ut.whole_iff] at h
 repeat' split
 all_goals omega
theorem pw_cases (t s:Nat) (hs:s≤3) (ht:t≤s):pw t≤pw s∧∀x,x%pw s=0→x%pw t=0:=by
 have h:s=0∨s=1∨s=2∨s=3:=by omega
 have h2:t=0∨t=1∨t=2∨t=3:=by omega
 rcases h with rfl | rfl | rfl | rfl <;> rcases h2 with rfl | rfl | rfl | rfl <;> simp only [pw0,pw1,pw2,pw3] <;> first | omega | (constructor <;> (try intro x) <;> omega)
theorem pw_pos (t:Nat):1≤pw t:=by
 unfold pw
 have:(0:Int)<64 ^ t:=Int.pow_pos (by omega)
 omega
theorem turns_ge (c last:Int) (tails s:Nat) (hs:s≤tails) (ht:tails≤3) (h:c%pw s=0) (h2:c+(pw s-1)≤last):s≤turns c last tails 0:=by
 have h1:=turns_le c last tails 0
 have h3:=turns_no c last tails 0
 rcases Nat.lt_or_ge (turns c last tails 0) s with q | q
 ·exfalso
  obtain ⟨p1,p2⟩:=pw_cases (turns c last tails 0+1) s (by omega) (by omega)
  exact h3 (by omega) ⟨p2 c h,by omega⟩
 ·exact q
theorem segs_down (last:Int) (tails:Nat) (ht:tails≤3):∀s,s≤3→∀c,0≤c→c%pw s=0→last+1-c<pw s→(segs c last tails).length≤s:=by
 intro s
 induction s using Nat.strongRecOn with
 | _ s ih=>
  intro hs c h0 hc hl
  rw [segs_step c last tails ht h0]
  by_cases h:c≤last
  ·rw [if_pos h]
   obtain ⟨hg,he⟩:=endOf_good c last c last tails ht h0 (Int.le_refl _) h (Int.le_refl _)
   have hle:=hg.le
   have h1:=turns_le c last tails 0
   have h2:=turns_at c last tails 0 ⟨by rw [pw0];omega,by rw [pw0];omega⟩
   have h3:=turns_no c last tails 0
   have hts:turns c last tails 0<s:=by
    rcases Nat.lt_or_ge (turns c last tails 0) s with q | q
    ·exact q
    ·have:=(pw_cases s (turns c last tails 0) (by omega) q).1
     omega
   have hend:endOf c last tails=(last+1)-(last+1)%pw (turns c last tails 0)-1:=by
    unfold endOf
    dsimp only
    by_cases q:turns c last tails 0<tails
    ·rw [if_pos q]
     obtain ⟨p1,p2⟩:=pw_cases (turns c last tails 0+1) s hs (by omega)
     have e0:=p2 c hc
     have:=h3 (by omega)
     rw [e0] at this ⊢
     have:min last (c-0+(pw (turns c last tails 0+1)-1))=last:=by omega
     rw [this]
    ·rw [if_neg q]
   have hp:=pw_pos (turns c last tails 0)
   have hm:=Int.emod_nonneg (last+1) (show pw (turns c last tails 0)≠0 by omega)
   have hm2:=Int.emod_lt_of_pos (last+1) (show 0<pw (turns c last tails 0) by omega)
   have h5:=ih _ hts (by omega) (endOf c last tails+1) (by omega) hg.b0 (by omega)
   rw [List.length_cons]
   omega
  ·rw [if_neg h]
   exact Nat.zero_le _
theorem segs_up (last:Int) (tails:Nat) (ht:tails≤3):∀n s,s≤tails→tails-s=n→∀c,0≤c→c%pw s=0→(segs c last tails).length≤(tails+1-s)+tails:=by
 intro n
 induction n using Nat.strongRecOn with
 | _ n ih=>
  intro s hs hn c h0 hc
  by_cases hl:last+1-c<pw s
  ·have:=segs_down last tails ht s (by omega) c h0 hc hl
   omega
  ·have hge:=turns_ge c last tails s hs ht hc (by omega)
   rw [segs_step c last tails ht h0]
   have hpp:=pw_pos s
   have h:c≤last:=by omega
   rw [if_pos h]
   obtain ⟨hg,he⟩:=endOf_good c last c last tails ht h0 (Int.le_refl _) h (Int.le_refl _)
   have hle:=hg.le
   have h1:=turns_le c last tails 0
   have hp:=pw_pos (turns c last tails 0)
   have hm:=Int.emod_nonneg (last+1) (show pw (turns c last tails 0)≠0 by omega)
   have hm2:=Int.emod_lt_of_pos (last+1) (show 0<pw (turns c last tails 0) by omega)
   rw [List.length_cons]
   have down:endOf c last tails=(last+1)-(last+1)%pw (turns c last tails 0)-1→(segs (endOf c last tails+1) last tails).length≤turns c last tails 0:=fun e=>
    segs_down last tails ht _ (by omega) _ (by omega) hg.b0 (by omega)
   by_cases q:turns c last tails 0<tails
   ·by_cases q2:c-c%pw (turns c last tails 0+1)+(pw (turns c last tails 0+1)-1)≤last
    ·have e:endOf c last tails+1=c-c%pw (turns c last tails 0+1)+pw (turns c last tails 0+1):=by
      unfold endOf
      dsimp only
      rw [if_pos q,show min last (c-c%pw (turns c last tails 0+1)+(pw (turns c last tails 0+1)-1))=c-c%pw (turns c last tails 0+1)+(pw (turns c last tails 0+1)-1) by omega]
      have hz:(c-c%pw (turns c last tails 0+1)+(pw (turns c last tails 0+1)-1)+1)%pw (turns c last tails 0)=0:=by
       refine (pw_cases (turns c last tails 0) (turns c last tails 0+1) (by omega) (by omega)).2 _ ?_
       rw [show c-c%pw (turns c last tails 0+1)+(pw (turns c last tails 0+1)-1)+1=c-c%pw (turns c last tails 0+1)+pw (turns c last tails 0+1) by omega]
       rw [Int.add_emod_right,Int.sub_emod,Int.emod_emod,Int.sub_self,Int.zero_emod]
      rw [hz]
      omega
     have h5:=ih _ (by omega) (turns c last tails 0+1) (by omega) rfl (endOf c last tails+1) (by omega) (by
      rw [e,Int.add_emod_right,Int.sub_emod,Int.emod_emod,Int.sub_self,Int.zero_emod])
     omega
    ·have:=down (by
      unfold endOf
      dsimp only
      rw [if_pos q,show min last (c-c%pw (turns c last tails 0+1)+(pw (turns c last tails 0+1)-1))=last by omega])
     omega
   ·have:=down (by
     unfold endOf
     dsimp only
     rw [if_neg q])
    omega
theorem segs_few (c last:Int) (tails:Nat) (ht:tails≤3) (h0:0≤c):(segs c last tails).length≤2*tails+1:=by
 have:=segs_up last tails ht _ 0 (by omega) rfl c h0 (by rw [pw0];omega)
 omega
theorem segs_none (c last:Int) (tails:Nat) (ht:tails≤3) (h0:0≤c) (h:last<c):(segs c last tails).length=0:=by
 rw [segs_step c last tails ht h0,if_neg (by omega)]
 rfl
theorem rows_few (lo hi:Int):(rows lo hi).length≤20:=by
 unfold rows pairs
 rw [List.length_map,List.length_flatMap]
 simp only [cuts,List.map_cons,List.map_nil,List.sum_cons,List.sum_nil]
 have one:∀(f l:Int) (t n:Nat),t≤3→0≤f→(segs f l t).length=n→(segs (max lo f) (min hi l) t).length≤2*t+1∧(lo≤f∧l≤hi→(segs (max lo f) (min hi l) t).length=n)∧(hi<f∨l<lo→(segs (max lo f) (min hi l) t).length=0∨l<f):=by
  intro f l t n ht hf hn
  refine ⟨segs_few _ _ _ ht (by omega),fun h=>?_,fun h=>?_⟩
  ·rw [show max lo f=f by omega,show min hi l=l by omega,hn]
  ·by_cases q:l<f
   ·exact .inr q
   ·exact .inl (segs_none _ _ _ ht (by omega) (by omega))
 have a0:=one 0 127 0 1 (by omega) (by omega) (by decide +kernel)
 have a1:=one 128 2047 1 1 (by omega) (by omega) (by decide +kernel)
 have a2:=one 2048 55295 2 3 (by omega) (by omega) (by decide +kernel)
 have a3:=one 57344 65535 2 1 (by omega) (by omega) (by decide +kernel)
 have a4:=one 65536 1114111 3 3 (by omega) (by omega) (by decide +kernel)
 omega
end Sp
namespace Sp
open Go.Lib
open Au (Arc Lo)
def addArc (n:List Lo) (p:Nat) (a:Arc):List Lo:=n.modify p fun s=>⟨s.fin,s.arcs++[a],s.free⟩
def leadBy (to_:Nat):List Lo→Nat→List (Int × Int)→List Lo
 | n,_,[]=>n
 | n,p,[r]=>addArc n p ⟨r.1,r.2,to_⟩
 | n,p,r :: r' :: rs=>leadBy to_ (addArc (n++[⟨false,[],[]⟩]) p ⟨r.1,r.2,n.length⟩) n.length (r' :: rs)
def lead (n:List Lo) (p q:Nat) (R:List (List (Int × Int))):List Lo:=R.foldl (fun n row=>leadBy q n p row) n
def chainL (to_:Nat):Nat→List (Int × Int)→List Lo
 | _,[]=>[]
 | k,r :: rs=>⟨false,[⟨r.1,r.2,if rs=[] then (to_:Int) else ((k+1:Nat):Int)⟩],[]⟩ :: chainL to_ (k+1) rs
theorem chainL_length (to_:Nat):∀k rs,(chainL to_ k rs).length=rs.length
 | _,[]=>rfl
 | k,_ :: rs=>by simp [chainL,chainL_length to_ (k+1) rs]
theorem chainL_at (to_:Nat):∀k (rs:List (Int × Int)) j (h:j<rs.length),(chainL to_ k rs)[j]?=some ⟨false,[⟨rs[j].1,rs[j].2,if j+1=rs.length then (to_:Int) else ((k+j+1:Nat):Int)⟩],[]⟩
 | k,r :: rs,0,_=>by
  have e:(rs=[])↔(0+1=(r :: rs).length):=by cases rs <;> simp
  simp only [chainL,List.getElem?_cons_zero,List.getElem_cons_zero]
  by_cases h:rs=[]
  ·rw [if_pos h,if_pos (e.1 h)]
  ·rw [if_neg h,if_neg (fun q=>h (e.2 q))]
 | k,r :: rs,j+1,h=>by
  have h':j<rs.length:=by simpa using h
  have:=chainL_at to_ (k+1) rs j h'
  simp only [chainL,List.getElem?_cons_succ,List.getElem_cons_succ,List.length_cons]
  rw [this]
  simp only [Nat.add_right_cancel_iff]
  by_cases q:j+1=rs.length
  ·rw [if_pos q,if_pos q]
  ·rw [if_neg q,if_neg q,show k+1+j+1=k+(j+1)+1 by omega]
theorem addArc_length (n:List Lo) (p:Nat) (a:Arc):(addArc n p a).length=n.length:=by simp [addArc]
theorem addArc_at (n:List Lo) (p:Nat) (a:Arc) (i:Nat):(addArc n p a)[i]?=(n[i]?).map fun s=>if p=i then ⟨s.fin,s.arcs++[a],s.free⟩ else s:=by
 unfold addArc
 rw [List.getElem?_modify]
 by_cases h:p=i
 ·simp [h]
 ·simp [h]
theorem addArc_append (n r:List Lo) (p:Nat) (a:Arc) (h:p<n.length):addArc (n++r) p a=addArc n p a++r:=by
 apply List.ext_getElem?
 intro i
 rw [addArc_at]
 by_cases hi:i<n.length
 ·rw [List.getElem?_append_left hi,List.getElem?_append_left (by rw [addArc_length];exact hi),addArc_at]
 ·rw [List.getElem?_append_right (by omega),List.getElem?_append_right (by rw [addArc_length];omega),addArc_length]
  have:p≠i:=by omega
  simp [this]
theorem addArc_last (n:List Lo) (s:Lo) (p:Nat) (a:Arc) (h:p=n.length):addArc (n++[s]) p a=n++[⟨s.fin,s.arcs++[a],s.free⟩]:=by
 subst h
 apply List.ext_getElem?
 intro i
 rw [addArc_at]
 by_cases hi:i<n.length
 ·have:n.length≠i:=by omega
  rw [List.getElem?_append_left hi,List.getElem?_append_left hi]
  simp [this]
 ·rw [List.getElem?_append_right (by omega),List.getElem?_append_right (by omega)]
  by_cases e:i=n.length
  ·subst e;simp
  ·rw [List.getElem?_eq_none (by simp;omega),List.getElem?_eq_none (by simp;omega)]
   rfl
theorem leadBy_form (to_:Nat):∀(rs:List (Int × Int)) (r:Int × Int) (n:List Lo) (p:Nat),p<n.length →
  leadBy to_ n p (r :: rs)=addArc n p ⟨r.1,r.2,if rs=[] then (to_:Int) else (n.length:Int)⟩++chainL to_ n.length rs
 | [],r,n,p,_=>by simp [leadBy,chainL]
 | r' :: rs,r,n,p,h=>by
  show leadBy to_ (addArc (n++[⟨false,[],[]⟩]) p ⟨r.1,r.2,n.length⟩) n.length (r' :: rs)=_
  have hl:(addArc (n++[(⟨false,[],[]⟩:Lo)]) p ⟨r.1,r.2,n.length⟩).length=n.length+1:=by rw [addArc_length];simp
  rw [leadBy_form to_ rs r' _ n.length (by omega),hl,addArc_append n _ p _ h,addArc_last _ _ _ _ (by rw [addArc_length])]
  rw [if_neg (show ¬(r' :: rs=[]) by simp)]
  simp only [chainL,List.nil_append,List.append_assoc,List.singleton_append]
theorem leadBy_length (to_:Nat) (n:List Lo) (p:Nat) (row:List (Int × Int)) (h:p<n.length):(leadBy to_ n p row).length=n.length+(row.length-1):=by
 cases row with
 | nil=>simp [leadBy]
 | cons r rs=>rw [leadBy_form to_ rs r n p h,List.length_append,addArc_length,chainL_length];simp
theorem lead_snoc (n:List Lo) (p q:Nat) (R:List (List (Int × Int))) (row:List (Int × Int)):lead n p q (R++[row])=leadBy q (lead n p q R) p row:=by
 unfold lead
 rw [List.foldl_append]
 rfl
structure Edge where
 src:Nat
 row:List (Int × Int)
 dst:Nat
def nxt (st:Nat→Nat→Nat) (e:Nat) (ed:Edge) (j:Nat):Nat:=if j=ed.row.length then ed.dst else st e j
structure Led (m:Nat) (base:Nat→Lo) (E:List Edge) (st:Nat→Nat→Nat) (n:List Lo):Prop where
 size:m≤n.length
 main:∀p,p<m→∃A:List Arc,n[p]?=some ⟨(base p).fin,(base p).arcs++A,(base p).free⟩ ∧
  ∀a,a∈A↔∃e ed r,E[e]?=some ed∧ed.src=p∧ed.row[0]?=some r∧a=⟨r.1,r.2,(nxt st e ed 1:Nat)⟩
 chain:∀e ed j r,E[e]?=some ed→1≤j→ed.row[j]?=some r→n[st e j]?=some ⟨false,[⟨r.1,r.2,(nxt st e ed (j+1):Nat)⟩],[]⟩∧m≤st e j
 inj:∀e ed j e' ed' j',E[e]?=some ed→1≤j→j<ed.row.length→E[e']?=some ed'→1≤j'→j'<ed'.row.length→st e j=st e' j'→e=e'∧j=j'
 all:∀k,m≤k→k<n.length→∃e ed j,E[e]?=some ed∧1≤j∧j<ed.row.length∧k=st e j
 src:∀ed∈E,ed.src<m∧ed.dst<m∧0<ed.row.length
theorem Led.nil (n:List Lo) (base:Nat→Lo) (hb:∀p,p<n.length→n[p]?=some (base p)) (st:Nat→Nat→Nat):Led n.length base [] st n:=by
 refine ⟨Nat.le_refl _,fun p hp=>⟨[],by rw [hb p hp];simp,fun a=>⟨fun h=>(by simp at h),fun ⟨e,ed,r,h,_⟩=>(by simp at h)⟩⟩,fun e ed j r h=>by simp at h,fun e ed j e' ed' j' h=>by simp at h,fun k h1 h2=>by omega,fun ed h=>by simp at h⟩
theorem Led.snoc {m:Nat} {base:Nat→Lo} {E:List Edge} {st:Nat→Nat→Nat} {n:List Lo} (h:Led m base E st n) (p q:Nat) (row:List (Int × Int)) (hp:p<m) (hq:q<m) (hr:0<row.length):
  Led m base (E++[⟨p,row,q⟩]) (fun e j=>if e=E.length then n.length+j-1 else st e j) (leadBy q n p row):=by
 obtain ⟨r,rs,rfl⟩:∃r rs,row=r :: rs:=by cases row with | nil=>simp at hr | cons r rs=>exact ⟨r,rs,rfl⟩
 have hsz:=h.size
 have hform:=leadBy_form q rs r n p (by omega)
 have hE:∀e ed,(E++[(⟨p,r :: rs,q⟩:Edge)])[e]?=some ed↔(e<E.length∧E[e]?=some ed)∨(e=E.length∧ed=⟨p,r :: rs,q⟩):=fun e ed=>by
  by_cases he:e<E.length
  ·rw [List.getElem?_append_left he]
   constructor
   ·exact fun h=>.inl ⟨he,h⟩
   ·rintro (⟨_,h⟩ | ⟨h,_⟩)
    ·exact h
    ·omega
  ·rw [List.getElem?_append_right (by omega)]
   constructor
   ·intro h2
    obtain ⟨h3,h4⟩:=List.getElem?_eq_some_iff.1 h2
    have h5:e-E.length=0:=by simp at h3;omega
    simp only [h5,List.getElem_cons_zero] at h4
    exact .inr ⟨by omega,h4.symm⟩
   ·rintro (⟨h,_⟩ | ⟨h,rfl⟩)
    ·omega
    ·simp [h]
 have hlt:∀ {e ed},E[e]?=some ed→e<E.length:=fun he=>(List.getElem?_eq_some_iff.1 he).1
 have hnx:∀ {e ed} j,E[e]?=some ed→nxt (fun e j=>if e=E.length then n.length+j-1 else st e j) e ed j=nxt st e ed j:=fun j he=>by
  have:=hlt he
  unfold nxt
  dsimp only
  rw [if_neg (show ¬_=E.length by omega)]
 have hnn:∀j,nxt (fun e j=>if e=E.length then n.length+j-1 else st e j) E.length ⟨p,r :: rs,q⟩ j=if j=rs.length+1 then q else n.length+j-1:=fun j=>by
  unfold nxt
  dsimp only
  rw [if_pos rfl]
  rfl
 have hold:∀i,i<n.length→i≠p→(leadBy q n p (r :: rs))[i]?=n[i]?:=fun i hi hip=>by
  rw [hform,List.getElem?_append_left (by rw [addArc_length];exact hi),addArc_at]
  have:¬p=i:=fun e=>hip e.symm
  simp [this]
 have hnew:∀j (hj:j<rs.length),(leadBy q n p (r :: rs))[n.length+j]?=some ⟨false,[⟨rs[j].1,rs[j].2,if j+1=rs.length then (q:Int) else ((n.length+j+1:Nat):Int)⟩],[]⟩:=fun j hj=>by
  rw [hform,List.getElem?_append_right (by rw [addArc_length];omega),addArc_length,Nat.add_sub_cancel_left]
  exact chainL_at q n.length rs j hj
 refine ⟨by rw [leadBy_length _ _ _ _ (by omega)];omega,fun p' hp'=>?_,fun e ed j r' he hj hr'=>?_,fun e ed j e' ed' j' he hj hj2 he' hj' hj2' hst=>?_,fun k hk1 hk2=>?_,fun ed hed=>?_⟩
 ·obtain ⟨A,h1,h2⟩:=h.main p' hp'
  by_cases e:p'=p
  ·subst e
   refine ⟨A++[⟨r.1,r.2,if rs=[] then (q:Int) else (n.length:Int)⟩],?_,fun a=>?_⟩
   ·rw [hform,List.getElem?_append_left (by rw [addArc_length];omega),addArc_at,h1]
    simp
   ·rw [List.mem_append,h2,List.mem_singleton]
    constructor
    ·rintro (⟨e,ed,r2,he,h3,h4,rfl⟩ | rfl)
     ·exact ⟨e,ed,r2,(hE _ _).2 (.inl ⟨hlt he,he⟩),h3,h4,by rw [hnx 1 he]⟩
     ·refine ⟨E.length,⟨p',r :: rs,q⟩,r,(hE _ _).2 (.inr ⟨rfl,rfl⟩),rfl,rfl,?_⟩
      rw [hnn]
      cases rs <;> simp
    ·rintro ⟨e,ed,r2,he,h3,h4,rfl⟩
     rcases (hE _ _).1 he with ⟨_,he⟩ | ⟨rfl,rfl⟩
     ·exact .inl ⟨e,ed,r2,he,h3,h4,by rw [hnx 1 he]⟩
     ·right
      simp at h4
      subst h4
      rw [hnn]
      cases rs <;> simp
  ·refine ⟨A,by rw [hold p' (by omega) e,h1],fun a=>?_⟩
   rw [h2]
   constructor
   ·rintro ⟨e,ed,r2,he,h3,h4,rfl⟩
    exact ⟨e,ed,r2,(hE _ _).2 (.inl ⟨hlt he,he⟩),h3,h4,by rw [hnx 1 he]⟩
   ·rintro ⟨e2,ed,r2,he,h3,h4,rfl⟩
    rcases (hE _ _).1 he with ⟨_,he⟩ | ⟨rfl,rfl⟩
    ·exact ⟨e2,ed,r2,he,h3,h4,by rw [hnx 1 he]⟩
    ·exact absurd h3.symm e
 ·rcases (hE _ _).1 he with ⟨hl,he⟩ | ⟨rfl,rfl⟩
  ·obtain ⟨h1,h2⟩:=h.chain e ed j r' he hj hr'
   rw [if_neg (show ¬e=E.length by omega),hnx _ he]
   have hs:st e j<n.length:=(List.getElem?_eq_some_iff.1 h1).1
   exact ⟨by rw [hold _ hs (by omega)];exact h1,h2⟩
  ·rw [if_pos rfl,hnn]
   obtain ⟨j,rfl⟩:∃i,j=i+1:=⟨j-1,by omega⟩
   have hj3:j<rs.length:=by
    have:=(List.getElem?_eq_some_iff.1 hr').1
    simpa using this
   have e1:r'=rs[j]:=by
    have:=(List.getElem?_eq_some_iff.1 hr').2
    simpa using this.symm
   subst e1
   rw [show n.length+(j+1)-1=n.length+j by omega,hnew j hj3]
   refine ⟨?_,by omega⟩
   by_cases q1:j+1=rs.length
   ·rw [if_pos q1,if_pos (by omega)]
   ·rw [if_neg q1,if_neg (by omega),show n.length+(j+1+1)-1=n.length+j+1 by omega]
 ·have hs:∀ {e ed j},E[e]?=some ed→1≤j→j<ed.row.length→st e j<n.length:=fun {e ed j} he h1 h2=>
   (List.getElem?_eq_some_iff.1 (h.chain e ed j _ he h1 (List.getElem?_eq_getElem h2)).1).1
  rcases (hE _ _).1 he with ⟨hl,he⟩ | ⟨rfl,rfl⟩ <;> rcases (hE _ _).1 he' with ⟨hl',he'⟩ | ⟨rfl,rfl⟩
  ·rw [if_neg (show ¬e=E.length by omega),if_neg (show ¬e'=E.length by omega)] at hst
   exact h.inj e ed j e' ed' j' he hj hj2 he' hj' hj2' hst
  ·rw [if_neg (show ¬e=E.length by omega),if_pos rfl] at hst
   have:=hs he hj hj2
   omega
  ·rw [if_pos rfl,if_neg (show ¬e'=E.length by omega)] at hst
   have:=hs he' hj' hj2'
   omega
  ·rw [if_pos rfl,if_pos rfl] at hst
   exact ⟨rfl,by omega⟩
 ·rw [leadBy_length _ _ _ _ (by omega)] at hk2
  by_cases q1:k<n.length
  ·obtain ⟨e,ed,j,he,h1,h2,h3⟩:=h.all k hk1 q1
   exact ⟨e,ed,j,(hE _ _).2 (.inl ⟨hlt he,he⟩),h1,h2,by rw [if_neg (show ¬e=E.length by have:=hlt he;omega)];exact h3⟩
  ·refine ⟨E.length,⟨p,r :: rs,q⟩,k-n.length+1,(hE _ _).2 (.inr ⟨rfl,rfl⟩),by omega,by simp at hk2 ⊢;omega,by rw [if_pos rfl];omega⟩
 ·rcases List.mem_append.1 hed with h1 | h1
  ·exact h.src ed h1
  ·rw [List.mem_singleton.1 h1]
   exact ⟨hp,hq,hr⟩
end Sp
namespace Sp
open Go.Lib
open Au (Arc Lo Star May has)
inductive Path (n:List Lo):List Nat→Nat→Prop
 | nil {k:Nat}:Star n 0 k→Path n [] k
 | snoc {w:List Nat} {k l c:Nat} {s:Lo} {a:Arc}:Path n w k→n[k]?=some s→a∈s.arcs→a.lo≤(c:Int)→(c:Int)≤a.hi→Star n a.to.toNat l→Path n (w++[c]) l
theorem star_lt {n:List Lo} (hM:May n) {i j:Nat} (h:Star n i j) (hi:i<n.length):j<n.length:=by
 induction h with
 | refl=>exact hi
 | step _ h1 h2 _=>
  obtain ⟨hl,rfl⟩:=List.getElem?_eq_some_iff.1 h1
  have:=hM.free _ hl _ h2
  omega
theorem path_snoc {n:List Lo} {w:List Nat} {c l:Nat}:Path n (w++[c]) l↔∃k s a,Path n w k∧n[k]?=some s∧a∈s.arcs∧a.lo≤(c:Int)∧(c:Int)≤a.hi∧Star n a.to.toNat l:=by
 constructor
 ·intro h
  generalize hw:w++[c]=v at h
  cases h with
  | nil _=>simp at hw
  | snoc h1 h2 h3 h4 h5 h6=>
   obtain ⟨rfl,e⟩:=List.append_inj' hw rfl
   obtain rfl:=List.singleton_inj.1 e
   exact ⟨_,_,_,h1,h2,h3,h4,h5,h6⟩
 ·rintro ⟨k,s,a,h1,h2,h3,h4,h5,h6⟩
  exact .snoc h1 h2 h3 h4 h5 h6
theorem path_nil {n:List Lo} {l:Nat}:Path n [] l↔Star n 0 l:=by
 constructor
 ·intro h
  generalize hw:([]:List Nat)=v at h
  cases h with
  | nil h=>exact h
  | snoc=>simp at hw
 ·exact .nil
theorem has_path {n:List Lo} (hM:May n):∀(m:Nat) (w:List Nat),w.length=m→∀k,has (w.foldl (Au.over n) (Au.first n)) k↔Path n w k
 | 0,w,hw,k=>by
  obtain rfl:=List.length_eq_zero_iff.1 hw
  rw [path_nil,List.foldl_nil]
  unfold Au.first Au.spread
  rw [Au.has_setOf]
  constructor
  ·rintro ⟨_,j,hj,hs⟩
   obtain ⟨_,rfl⟩:=(Au.has_setOf _ _ _).1 hj
   exact hs
  ·intro hs
   exact ⟨star_lt hM hs hM.pos,0,(Au.has_setOf _ _ _).2 ⟨hM.pos,rfl⟩,hs⟩
 | m+1,w,hw,k=>by
  obtain ⟨v,c,rfl⟩:∃v c,w=v++[c]:=⟨w.dropLast,w.getLast (by intro e;rw [e] at hw;simp at hw),(List.dropLast_concat_getLast _).symm⟩
  have ih:=has_path hM m v (by simpa using hw)
  rw [path_snoc,List.foldl_append]
  show has (Au.over n (v.foldl (Au.over n) (Au.first n)) c) k↔_
  unfold Au.over Au.spread
  rw [Au.has_setOf]
  constructor
  ·rintro ⟨_,j,hj,hs⟩
   obtain ⟨_,k',s,a,h1,h2,h3,h4,h5,rfl⟩:=(Au.has_setOf _ _ _).1 hj
   exact ⟨k',s,a,(ih k').1 h1,h2,h3,h4,h5,hs⟩
  ·rintro ⟨k',s,a,h1,h2,h3,h4,h5,h6⟩
   obtain ⟨hl,rfl⟩:=List.getElem?_eq_some_iff.1 h2
   have hto:=hM.arc _ hl a h3
   have hlt:a.to.toNat<n.length:=by omega
   exact ⟨star_lt hM h6 hlt,a.to.toNat,(Au.has_setOf _ _ _).2 ⟨hlt,k',n[k'],a,(ih k').2 h1,h2,h3,h4,h5,rfl⟩,h6⟩
def PreN (row:List (Int × Int)) (x:List Nat):Prop:=x.length≤row.length∧∀(i:Nat) (r:Int × Int) (c:Nat),row[i]?=some r→x[i]?=some c→r.1≤(c:Int)∧(c:Int)≤r.2
def FitsN (row:List (Int × Int)) (x:List Nat):Prop:=x.length=row.length∧PreN row x
theorem preN_snoc {row:List (Int × Int)} {x:List Nat} {c:Nat}:PreN row (x++[c])↔PreN row x∧∃r,row[x.length]?=some r∧r.1≤(c:Int)∧(c:Int)≤r.2:=by
 unfold PreN
 constructor
 ·rintro ⟨h1,h2⟩
  simp only [List.length_append,List.length_singleton] at h1
  refine ⟨⟨by omega,fun i r c' hr hc=>h2 i r c' hr (by rw [List.getElem?_append_left (List.getElem?_eq_some_iff.1 hc).1];exact hc)⟩,row[x.length]'(by omega),List.getElem?_eq_getElem _,h2 x.length _ c (List.getElem?_eq_getElem _) (by simp)⟩
 ·rintro ⟨⟨h1,h2⟩,r,hr,h3,h4⟩
  have hl:=(List.getElem?_eq_some_iff.1 hr).1
  refine ⟨by simp;omega,fun i r' c' hr' hc'=>?_⟩
  by_cases hi:i<x.length
  ·rw [List.getElem?_append_left hi] at hc'
   exact h2 i r' c' hr' hc'
  ·have hi2:i<(x++[c]).length:=(List.getElem?_eq_some_iff.1 hc').1
   obtain rfl:i=x.length:=by simp at hi2;omega
   rw [hr] at hr'
   cases hr'
   simp at hc'
   subst hc'
   exact ⟨h3,h4⟩
def bs (n0:List Lo) (p:Nat):Lo:=n0.getD p ⟨false,[],[]⟩
theorem bs_at {n0:List Lo} {p:Nat} (h:p<n0.length):n0[p]?=some (bs n0 p):=by simp [bs,List.getD,h]
inductive MP (n0:List Lo) (E:List Edge):List Nat→Nat→Prop
 | nil {k:Nat}:Star n0 0 k→MP n0 E [] k
 | arc {w:List Nat} {k l c:Nat} {s:Lo} {a:Arc}:MP n0 E w k→n0[k]?=some s→a∈s.arcs→a.lo≤(c:Int)→(c:Int)≤a.hi→Star n0 a.to.toNat l→MP n0 E (w++[c]) l
 | edge {w x:List Nat} {l:Nat} {ed:Edge}:MP n0 E w ed.src→ed∈E→FitsN ed.row x→Star n0 ed.dst l→MP n0 E (w++x) l
section
variable {n0 n:List Lo} {E:List Edge} {st:Nat→Nat→Nat}
theorem MP.lt (hM:May n0) (hs:∀ed∈E,ed.dst<n0.length) {w:List Nat} {k:Nat} (h:MP n0 E w k):k<n0.length:=by
 cases h with
 | nil h=>exact star_lt hM h hM.pos
 | arc _ h2 h3 _ _ h6=>
  obtain ⟨hl,rfl⟩:=List.getElem?_eq_some_iff.1 h2
  have:=hM.arc _ hl _ h3
  exact star_lt hM h6 (by omega)
 | edge _ h2 _ h4=>exact star_lt hM h4 (hs _ h2)
theorem Led.star (h:Led n0.length (bs n0) E st n) (hM:May n0) {i k:Nat} (hi:i<n0.length):Star n i k↔Star n0 i k:=by
 constructor
 ·intro hs
  have key:k<n0.length∧Star n0 i k:=by
   induction hs with
   | refl=>exact ⟨hi,.refl⟩
   | step _ h1 h2 ih=>
    obtain ⟨i1,i2⟩:=ih
    obtain ⟨A,h3,_⟩:=h.main _ i1
    rw [h1] at h3
    cases h3
    have hb:=bs_at i1
    refine ⟨?_,.step i2 hb h2⟩
    obtain ⟨hl,e⟩:=List.getElem?_eq_some_iff.1 hb
    have:=hM.free _ hl _ (by rw [e];exact h2)
    omega
  exact key.2
 ·intro hs
  have key:k<n0.length∧Star n i k:=by
   induction hs with
   | refl=>exact ⟨hi,.refl⟩
   | step _ h1 h2 ih=>
    obtain ⟨i1,i2⟩:=ih
    obtain ⟨A,h3,_⟩:=h.main _ i1
    rw [bs_at i1] at h1
    cases h1
    refine ⟨?_,.step i2 h3 h2⟩
    obtain ⟨hl,e⟩:=List.getElem?_eq_some_iff.1 (bs_at i1)
    have:=hM.free _ hl _ (by rw [e];exact h2)
    omega
  exact key.2
theorem Led.star_chain (h:Led n0.length (bs n0) E st n) {e j:Nat} {ed:Edge} (he:E[e]?=some ed) (h1:1≤j) (h2:j<ed.row.length) {k:Nat} (hs:Star n (st e j) k):k=st e j:=by
 induction hs with
 | refl=>rfl
 | step _ h3 h4 ih=>
  subst ih
  rw [(h.chain e ed j _ he h1 (List.getElem?_eq_getElem h2)).1] at h3
  cases h3
  cases h4
def InRow (n0:List Lo) (E:List Edge) (st:Nat→Nat→Nat) (w:List Nat) (k:Nat):Prop:=
 ∃e ed u x,E[e]?=some ed∧1≤x.length∧x.length<ed.row.length∧k=st e x.length∧w=u++x∧PreN ed.row x∧MP n0 E u ed.src
theorem Led.path_of (h:Led n0.length (bs n0) E st n) (hM:May n0) {w:List Nat} {k:Nat} (hp:Path n w k):(k<n0.length∧MP n0 E w k)∨InRow n0 E st w k:=by
 have go:∀(e:Nat) (ed:Edge) (u x:List Nat) (l:Nat),E[e]?=some ed→MP n0 E u ed.src→PreN ed.row x→1≤x.length→Star n (nxt st e ed x.length) l→(l<n0.length∧MP n0 E (u++x) l)∨InRow n0 E st (u++x) l:=by
  intro e ed u x l he hu hx h1 hs
  unfold nxt at hs
  by_cases q:x.length=ed.row.length
  ·rw [if_pos q] at hs
   have hd:=(h.src ed (List.mem_of_getElem? he)).2.1
   have hs0:=(h.star hM hd).1 hs
   exact .inl ⟨star_lt hM hs0 hd,.edge hu (List.mem_of_getElem? he) ⟨q,hx⟩ hs0⟩
  ·rw [if_neg q] at hs
   have hlt:x.length<ed.row.length:=by have:=hx.1;omega
   exact .inr ⟨e,ed,u,x,he,h1,hlt,h.star_chain he h1 hlt hs,rfl,hx,hu⟩
 induction hp with
 | nil h0=>
  have:=(h.star hM hM.pos).1 h0
  exact .inl ⟨star_lt hM this hM.pos,.nil this⟩
 | @snoc w k l c s a hp h1 h2 h3 h4 h5 ih=>
  rcases ih with ⟨i1,i2⟩ | ⟨e,ed,u,x,he,hx1,hx2,rfl,rfl,hx3,hu⟩
  ·obtain ⟨A,h6,h7⟩:=h.main _ i1
   rw [h1] at h6
   cases h6
   rcases List.mem_append.1 h2 with h2 | h2
   ·have hb:=bs_at i1
    obtain ⟨hl,e⟩:=List.getElem?_eq_some_iff.1 hb
    have hto:=hM.arc _ hl _ (by rw [e];exact h2)
    have hlt:a.to.toNat<n0.length:=by omega
    have hs0:=(h.star hM hlt).1 h5
    exact .inl ⟨star_lt hM hs0 hlt,.arc i2 hb h2 h3 h4 hs0⟩
   ·obtain ⟨e,ed,r,he,rfl,hr,rfl⟩:=(h7 _).1 h2
    refine go e ed _ [_] _ he i2 ?_ (by simp) (by simpa using h5)
    exact ⟨by have:=(List.getElem?_eq_some_iff.1 hr).1;simp;omega,fun i r' c' hr' hc'=>by
     have hi:=(List.getElem?_eq_some_iff.1 hc').1
     obtain rfl:i=0:=by simpa using hi
     rw [hr] at hr'
     cases hr'
     simp at hc'
     subst hc'
     exact ⟨h3,h4⟩⟩
  ·have hc:=(h.chain e ed x.length _ he hx1 (List.getElem?_eq_getElem hx2)).1
   rw [h1] at hc
   cases hc
   obtain rfl:=List.mem_singleton.1 h2
   rw [List.append_assoc]
   refine go e ed u (x++[_]) _ he hu (preN_snoc.2 ⟨hx3,_,List.getElem?_eq_getElem hx2,h3,h4⟩) (by simp) (by simpa using h5)
theorem Led.chain_path (h:Led n0.length (bs n0) E st n) {e:Nat} {ed:Edge} (he:E[e]?=some ed) {u:List Nat} (hu:Path n u ed.src):∀(m:Nat) (x:List Nat),x.length=m+1→PreN ed.row x→∀l,Star n (nxt st e ed x.length) l→Path n (u++x) l
 | 0,x,hx,hp,l,hs=>by
  obtain ⟨c,rfl⟩:=List.length_eq_one_iff.1 hx
  obtain ⟨_,r,hr,h1,h2⟩:=preN_snoc (x:=[]).1 hp
  obtain ⟨A,h3,h4⟩:=h.main _ (h.src ed (List.mem_of_getElem? he)).1
  exact .snoc hu h3 (List.mem_append_right _ ((h4 _).2 ⟨e,ed,r,he,rfl,hr,rfl⟩)) h1 h2 (by simpa using hs)
 | m+1,x,hx,hp,l,hs=>by
  obtain ⟨v,c,rfl⟩:∃v c,x=v++[c]:=⟨x.dropLast,x.getLast (by intro e;rw [e] at hx;simp at hx),(List.dropLast_concat_getLast _).symm⟩
  obtain ⟨hv,r,hr,h1,h2⟩:=preN_snoc.1 hp
  have hl:v.length=m+1:=by simpa using hx
  have hlt:=(List.getElem?_eq_some_iff.1 hr).1
  have hp1:=h.chain_path he hu m v hl hv (st e v.length) (by unfold nxt;rw [if_neg (by omega)];exact .refl)
  rw [←List.append_assoc]
  exact .snoc hp1 (h.chain e ed v.length r he (by omega) hr).1 (List.mem_singleton.2 rfl) h1 h2 (by simpa using hs)
theorem Led.of_mp (h:Led n0.length (bs n0) E st n) (hM:May n0) {w:List Nat} {k:Nat} (hp:MP n0 E w k):Path n w k:=by
 induction hp with
 | nil h0=>exact .nil ((h.star hM hM.pos).2 h0)
 | arc _ h2 h3 h4 h5 h6 ih=>
  obtain ⟨hl,e⟩:=List.getElem?_eq_some_iff.1 h2
  obtain ⟨A,h7,_⟩:=h.main _ hl
  have hto:=hM.arc _ hl _ (by rw [e];exact h3)
  have hb:=bs_at hl
  rw [h2] at hb
  cases hb
  exact .snoc ih h7 (List.mem_append_left _ h3) h4 h5 ((h.star hM (by omega)).2 h6)
 | edge _ h2 h3 h4 ih=>
  obtain ⟨e,he⟩:=List.mem_iff_getElem?.1 h2
  have hsrc:=h.src _ h2
  obtain ⟨m,hm⟩:∃m,_=m+1:=⟨_,(Nat.succ_pred_eq_of_pos (show 0<List.length _ by rw [h3.1];exact hsrc.2.2)).symm⟩
  refine h.chain_path he ih m _ hm h3.2 _ ?_
  unfold nxt
  rw [if_pos h3.1]
  exact (h.star hM hsrc.2.1).2 h4
theorem Led.path_iff (h:Led n0.length (bs n0) E st n) (hM:May n0) {w:List Nat} {k:Nat}:Path n w k↔MP n0 E w k∨InRow n0 E st w k:=by
 constructor
 ·intro hp
  rcases h.path_of hM hp with ⟨_,h1⟩ | h1
  ·exact .inl h1
  ·exact .inr h1
 ·rintro (h1 | ⟨e,ed,u,x,he,hx1,hx2,rfl,rfl,hx3,hu⟩)
  ·exact h.of_mp hM h1
  ·obtain ⟨m,hm⟩:∃m,x.length=m+1:=⟨x.length-1,by omega⟩
   refine h.chain_path he (h.of_mp hM hu) m x hm hx3 _ ?_
   unfold nxt
   rw [if_neg (by omega)]
   exact .refl
theorem Led.may (h:Led n0.length (bs n0) E st n) (hM:May n0) (hr:∀ed∈E,∀r∈ed.row,0≤r.1∧r.1≤r.2∧r.2≤255):May n:=by
 have hsz:=h.size
 have hst:∀ {e ed j},E[e]?=some ed→1≤j→j≤ed.row.length→nxt st e ed j<n.length:=fun {e ed j} he h1 h2=>by
  unfold nxt
  by_cases q:j=ed.row.length
  ·rw [if_pos q];have:=(h.src ed (List.mem_of_getElem? he)).2.1;omega
  ·rw [if_neg q]
   exact (List.getElem?_eq_some_iff.1 (h.chain e ed j _ he h1 (List.getElem?_eq_getElem (by omega))).1).1
 refine ⟨Nat.lt_of_lt_of_le hM.pos hsz,fun i hi a ha=>?_,fun i hi f hf=>?_⟩
 ·by_cases q:i<n0.length
  ·obtain ⟨A,h1,h2⟩:=h.main i q
   have e1:n[i]=⟨(bs n0 i).fin,(bs n0 i).arcs++A,(bs n0 i).free⟩:=(List.getElem?_eq_some_iff.1 h1).2
   rw [e1] at ha
   rcases List.mem_append.1 ha with ha | ha
   ·obtain ⟨hl,e⟩:=List.getElem?_eq_some_iff.1 (bs_at q)
    have:=hM.arc i q a (by rw [e];exact ha)
    omega
   ·obtain ⟨e,ed,r,he,_,hr0,rfl⟩:=(h2 a).1 ha
    have hm:=List.mem_of_getElem? he
    have:=hr ed hm r (List.mem_of_getElem? hr0)
    have:=hst he (Nat.le_refl 1) (h.src ed hm).2.2
    dsimp only
    omega
  ·obtain ⟨e,ed,j,he,h1,h2,rfl⟩:=h.all i (by omega) hi
   have hc:=(h.chain e ed j _ he h1 (List.getElem?_eq_getElem h2)).1
   have e1:=(List.getElem?_eq_some_iff.1 hc).2
   rw [e1] at ha
   obtain rfl:=List.mem_singleton.1 ha
   have:=hr ed (List.mem_of_getElem? he) _ (List.getElem_mem h2)
   have:=hst he (show 1≤j+1 by omega) h2
   dsimp only
   omega
 ·by_cases q:i<n0.length
  ·obtain ⟨A,h1,h2⟩:=h.main i q
   have e1:n[i]=⟨(bs n0 i).fin,(bs n0 i).arcs++A,(bs n0 i).free⟩:=(List.getElem?_eq_some_iff.1 h1).2
   rw [e1] at hf
   obtain ⟨hl,e⟩:=List.getElem?_eq_some_iff.1 (bs_at q)
   have:=hM.free i q f (by rw [e];exact hf)
   omega
  ·obtain ⟨e,ed,j,he,h1,h2,rfl⟩:=h.all i (by omega) hi
   have hc:=(h.chain e ed j _ he h1 (List.getElem?_eq_getElem h2)).1
   have e1:=(List.getElem?_eq_some_iff.1 hc).2
   rw [e1] at hf
   cases hf
end
end Sp
namespace Sp
open Go.Lib
open Au (Arc Lo Star May has)
def cls (b:Nat):Nat:=if b≤127 then 1 else if b≤191 then 0 else if b≤223 then 2 else if b≤239 then 3 else if b≤247 then 4 else 0
def Cont (b:Nat):Prop:=128≤b∧b≤191
structure Shape (row:List (Int × Int)):Prop where
 pos:0<row.length
 len:row.length≤4
 rng:∀r∈row,0≤r.1∧r.1≤r.2∧r.2≤255
 head:∀r,row[0]?=some r→∀b:Nat,r.1≤(b:Int)→(b:Int)≤r.2→cls b=row.length
 tail:∀i r,row[i+1]?=some r→128≤r.1∧r.2≤191
theorem shape_good {f l:Int} {tails t:Nat} {a b:Int} (hk:InCut f l tails) (h:Good f l tails t a b):Shape (rowOf (a,b))∧(rowOf (a,b)).length=tails+1:=by
 have hrow:=row_good hk h
 have h1:=h.lo
 have h2:=h.hi
 have h3:=h.le
 have hlen:=hrow.len
 refine ⟨⟨by omega,by have:=(cut_small hk).1;omega,hrow.rng,?_,?_⟩,hlen⟩
 ·intro r hr c hc1 hc2
  rw [hlen]
  unfold rowOf at hr
  unfold cls
  cases hk
  ·rw [encodeRuneZ_one (by omega) (by omega),encodeRuneZ_one (by omega) (by omega)] at hr
   simp at hr
   subst hr
   dsimp only at hc1 hc2
   rw [if_pos (by omega)]
  ·rw [encodeRuneZ_two (by omega) (by omega),encodeRuneZ_two (by omega) (by omega)] at hr
   simp at hr
   subst hr
   dsimp only at hc1 hc2
   rw [if_neg (by omega),if_neg (by omega),if_pos (by omega)]
  ·rw [encodeRuneZ_three (by omega),encodeRuneZ_three (by omega)] at hr
   simp at hr
   subst hr
   dsimp only at hc1 hc2
   rw [if_neg (by omega),if_neg (by omega),if_neg (by omega),if_pos (by omega)]
  ·rw [encodeRuneZ_three (by omega),encodeRuneZ_three (by omega)] at hr
   simp at hr
   subst hr
   dsimp only at hc1 hc2
   rw [if_neg (by omega),if_neg (by omega),if_neg (by omega),if_pos (by omega)]
  ·rw [encodeRuneZ_four (by omega) (by omega),encodeRuneZ_four (by omega) (by omega)] at hr
   simp at hr
   subst hr
   dsimp only at hc1 hc2
   rw [if_neg (by omega),if_neg (by omega),if_neg (by omega),if_neg (by omega),if_pos (by omega)]
 ·intro i r hr
  have hi:i+1<tails+1:=by rw [←hlen];exact (List.getElem?_eq_some_iff.1 hr).1
  unfold rowOf at hr
  cases hk
  ·omega
  ·rw [encodeRuneZ_two (by omega) (by omega),encodeRuneZ_two (by omega) (by omega)] at hr
   obtain rfl:i=0:=by omega
   simp at hr
   subst hr
   dsimp only
   omega
  ·rw [encodeRuneZ_three (by omega),encodeRuneZ_three (by omega)] at hr
   have hi2:i=0∨i=1:=by omega
   rcases hi2 with rfl | rfl <;> (simp at hr;subst hr;dsimp only;omega)
  ·rw [encodeRuneZ_three (by omega),encodeRuneZ_three (by omega)] at hr
   have hi2:i=0∨i=1:=by omega
   rcases hi2 with rfl | rfl <;> (simp at hr;subst hr;dsimp only;omega)
  ·rw [encodeRuneZ_four (by omega) (by omega),encodeRuneZ_four (by omega) (by omega)] at hr
   have hi2:i=0∨i=1∨i=2:=by omega
   rcases hi2 with rfl | rfl | rfl <;> (simp at hr;subst hr;dsimp only;omega)
theorem rows_shape {lo hi:Int} {row:List (Int × Int)} (h:row∈rows lo hi):Shape row:=by
 obtain ⟨p,hp,rfl⟩:=List.mem_map.1 h
 obtain ⟨f,l,tails,t,hc,hg,_⟩:=pairs_all lo hi p hp
 exact (shape_good hc hg).1
def Part (x:List Nat):Prop:=∃b t,x=b :: t∧¬Cont b∧∀c∈t,Cont c
theorem preN_part {row:List (Int × Int)} (hs:Shape row) {x:List Nat} (h:PreN row x) (h1:1≤x.length):Part x∧∃b t,x=b :: t∧cls b=row.length:=by
 obtain ⟨hl,hp⟩:=h
 cases x with
 | nil=>simp at h1
 | cons b t=>
  have h0:0<row.length:=hs.pos
  obtain ⟨p1,p2⟩:=hp 0 row[0] b (List.getElem?_eq_getElem h0) rfl
  have hc:=hs.head row[0] (List.getElem?_eq_getElem h0) b p1 p2
  refine ⟨⟨b,t,rfl,fun hcb=>?_,fun c hct=>?_⟩,b,t,rfl,hc⟩
  ·have:cls b=0:=by
    unfold cls
    rw [if_neg (by have:=hcb.1;omega),if_pos hcb.2]
   omega
  ·obtain ⟨i,hi,rfl⟩:=List.mem_iff_getElem.1 hct
   have hi2:i+1<row.length:=by simp at hl;omega
   obtain ⟨q1,q2⟩:=hp (i+1) row[i+1] t[i] (List.getElem?_eq_getElem hi2) (by simp)
   obtain ⟨q3,q4⟩:=hs.tail i row[i+1] (List.getElem?_eq_getElem hi2)
   exact ⟨by omega,by omega⟩
theorem part_one {u u' x x':List Nat} (h:Part x) (h':Part x') (e:u++x=u'++x'):u=u'∧x=x':=by
 have key:∀(u u' x x':List Nat),Part x→Part x'→u++x=u'++x'→¬x.length<x'.length:=by
  intro u u' x x' ⟨b,t,hx,hb,_⟩ ⟨b',t',hx',_,ht'⟩ e hlt
  have hl:u.length+x.length=u'.length+x'.length:=by have:=congrArg List.length e;simpa using this
  have hget:(u'++x')[u.length]?=some b:=by
   rw [←e,List.getElem?_append_right (Nat.le_refl _),Nat.sub_self,hx]
   rfl
  rw [List.getElem?_append_right (by omega),hx',show u.length-u'.length=(u.length-u'.length-1)+1 by omega,List.getElem?_cons_succ] at hget
  exact hb (ht' b (List.mem_of_getElem? hget))
 have h1:=key u u' x x' h h' e
 have h2:=key u' u x' x h' h e.symm
 exact List.append_inj' e (by omega)
end Sp
namespace Sp
open Go.Lib
open Au (Arc Lo Star May has)
theorem takes_path {n:List Lo} (hM:May n) (w:List Nat):Au.takes n (Au.first n) w=true↔∃k s,Path n w k∧n[k]?=some s∧s.fin=true:=by
 unfold Au.takes
 rw [Au.ends_iff]
 constructor
 ·rintro ⟨k,s,h1,h2,h3⟩
  exact ⟨k,s,(has_path hM _ w rfl k).1 h1,h2,h3⟩
 ·rintro ⟨k,s,h1,h2,h3⟩
  exact ⟨k,s,(has_path hM _ w rfl k).2 h1,h2,h3⟩
theorem path_sets {n:List Lo} (hM:May n) (w:List Nat):w.foldl (Au.over n) (Au.first n)=Au.setOf n.length (Path n w):=by
 have hl:(w.foldl (Au.over n) (Au.first n)).length=n.length:=by
  rcases List.eq_nil_or_concat w with rfl | ⟨v,c,rfl⟩
  ·exact Au.first_length n
  ·rw [List.concat_eq_append,List.foldl_append]
   exact Au.over_length n _ c
 refine Au.set_ext (by rw [hl,Au.setOf_length]) fun i=>?_
 rw [has_path hM _ w rfl,Au.has_setOf]
 constructor
 ·intro h
  have h2:=(has_path hM _ w rfl i).2 h
  exact ⟨by rw [←hl];exact (List.getElem?_eq_some_iff.1 h2).1,h⟩
 ·exact fun h=>h.2
theorem few_of_code {n:List Lo} (hM:May n) (N:Nat) (code:List Nat→Nat) (hc:∀w,code w<N) (hi:∀w w',code w=code w'→∀k,Path n w k↔Path n w' k) (most:Int) (hN:(N:Int)≤most):∃i,Au.Few n most i:=by
 classical
 let P:List Bool→Prop:=fun S=>∃w,S=Au.setOf n.length (Path n w)
 let f:List Bool→Nat:=fun S=>if h:P S then code (Classical.choose h) else 0
 have hb:∀i,((Au.sub n).plain.met (Au.first n) i).length≤N:=fun i=>by
  refine Au.met_few (Au.sub n).plain (fun s=>decide_eq_true rfl) f N P (fun S c T hS hg=>?_) (Au.first n) ⟨[],(path_sets hM [])⟩ (fun S hS=>?_) (fun S T hS hT e=>?_) i
  ·obtain ⟨w,rfl⟩:=hS
   change (if _ then _ else _)=_ at hg
   split at hg
   ·cases hg
   ·cases hg
    refine ⟨w++[c],?_⟩
    rw [←path_sets hM,←path_sets hM,List.foldl_append]
    rfl
  ·show (if h:P S then _ else _)<N
   rw [dif_pos hS]
   exact hc _
  ·change (if h:P S then _ else _)=(if h:P T then _ else _) at e
   rw [dif_pos hS,dif_pos hT] at e
   have hp:=hi _ _ e
   have e1:=Classical.choose_spec hS
   have e2:=Classical.choose_spec hT
   rw [e1,e2]
   refine Au.set_ext (by rw [Au.setOf_length,Au.setOf_length]) fun k=>?_
   rw [Au.has_setOf,Au.has_setOf,hp k]
 exact ⟨N,hb N,by have:=hb N;omega⟩
section
variable {n0 n:List Lo} {E:List Edge} {st:Nat→Nat→Nat} {R:List (List (Int × Int))}
end
section
variable {old:Lo} {R:List (List (Int × Int))}
end
end Sp
namespace Sp
open Go.Lib
open Au (Arc Lo Star May has)
section
variable {old:Lo} {lo hi:Int}
def word (c:Int):List Nat:=(encodeRune c).map UInt8.toNat
theorem word_part {c:Int} (h:Ut.whole c=true):Part (word c):=by
 have hb:∀l:List Int,(∀x∈l,0≤x∧x<256)→(l.map fun x=>x.toNat.toUInt8).map UInt8.toNat=l.map Int.toNat:=fun l hl=>by
  rw [List.map_map]
  refine List.map_congr_left fun x hx=>?_
  have:=hl x hx
  exact Ut.byteZ x this.1 this.2
 have e:word c=(encodeRuneZ c).map Int.toNat:=hb _ (encodeRuneZ_byte c)
 rw [e]
 rcases Ut.run_cases c h with ⟨h1,h2,e⟩ | ⟨h1,h2,e⟩ | ⟨h1,e⟩ | ⟨h1,h2,e⟩ <;> rw [e]
 ·exact ⟨_,[],rfl,fun h=>by have:=h.1;omega,fun c hc=>by cases hc⟩
 ·refine ⟨_,[(128+c%64).toNat],rfl,fun h=>by have:=h.2;omega,fun d hd=>?_⟩
  simp only [List.mem_cons,List.not_mem_nil,or_false] at hd
  subst hd
  exact ⟨by omega,by omega⟩
 ·refine ⟨_,[(128+c/64%64).toNat,(128+c%64).toNat],rfl,fun h=>by have:=h.2;omega,fun d hd=>?_⟩
  simp only [List.mem_cons,List.not_mem_nil,or_false] at hd
  rcases hd with rfl | rfl
  ·exact ⟨by omega,by omega⟩
  ·exact ⟨by omega,by omega⟩
 ·refine ⟨_,[(128+c/4096%64).toNat,(128+c/64%64).toNat,(128+c%64).toNat],rfl,fun h=>by have:=h.2;omega,fun d hd=>?_⟩
  simp only [List.mem_cons,List.not_mem_nil,or_false] at hd
  rcases hd with rfl | rfl | rfl
  ·exact ⟨by omega,by omega⟩
  ·exact ⟨by omega,by omega⟩
  ·exact ⟨by omega,by omega⟩
theorem fitsN_iff:∀(row:List (Int × Int)) (l:List UInt8),FitsN row (l.map UInt8.toNat)↔fits row l=true
 | [],[]=>⟨fun _=>rfl,fun _=>⟨rfl,Nat.le_refl _,fun i r c h=>by simp at h⟩⟩
 | [],_ :: _=>⟨fun h=>by have:=h.1;simp at this,fun h=>by cases h⟩
 | _ :: _,[]=>⟨fun h=>by have:=h.1;simp at this,fun h=>by cases h⟩
 | r :: rs,c :: cs=>by
  have ih:=fitsN_iff rs cs
  show _↔(decide _&&fits rs cs)=true
  rw [Bool.and_eq_true,decide_eq_true_iff,←ih]
  constructor
  ·rintro ⟨h1,h2,h3⟩
   refine ⟨h3 0 r c.toNat rfl rfl,by simpa using h1,by simpa using h2,fun i r' c' a b=>h3 (i+1) r' c' (by simpa using a) (by simpa using b)⟩
  ·rintro ⟨h0,h1,h2,h3⟩
   refine ⟨by simpa using h1,by simpa using h2,fun i r' c' a b=>?_⟩
   cases i with
   | zero=>
    simp at a b
    subst a b
    exact h0
   | succ i=>exact h3 i r' c' (by simpa using a) (by simpa using b)
theorem rows_fit (lo hi:Int) {c:Int} (h:Ut.whole c=true):(∃row∈rows lo hi,FitsN row (word c))↔lo≤c∧c≤hi:=by
 have hh:=rows_hold lo hi c h
 constructor
 ·rintro ⟨row,hrow,hf⟩
  by_cases q:lo≤c∧c≤hi
  ·exact q
  ·rw [if_neg q] at hh
   have:=List.length_eq_zero_iff.1 hh
   rw [List.filter_eq_nil_iff] at this
   exact absurd ((fitsN_iff row (encodeRune c)).1 hf) (this row hrow)
 ·intro q
  rw [if_pos q] at hh
  obtain ⟨row,hrow⟩:=List.length_eq_one_iff.1 hh
  have hm:row∈(rows lo hi).filter fun r=>fits r (encodeRune c):=by rw [hrow];simp
  rw [List.mem_filter] at hm
  exact ⟨row,hm.1,(fitsN_iff row (encodeRune c)).2 hm.2⟩
end
end Sp
namespace Sp
open Go.Lib
open Au (Arc Lo Star May has)
theorem Led.leads {m:Nat} {base:Nat→Lo} {E:List Sp.Edge} {st:Nat→Nat→Nat} {n:List Lo} (h:Led m base E st n) {p q:Nat} (hp:p<m) (hq:q<m):∀(k:Nat) (R:List (List (Int × Int))),R.length=k→(∀row∈R,0<row.length)→∃st',Led m base (E++R.map fun row=>⟨p,row,q⟩) st' (lead n p q R)
 | 0,R,hR,_=>by
  obtain rfl:=List.length_eq_zero_iff.1 hR
  exact ⟨st,by simpa [lead] using h⟩
 | k+1,R,hR,hr=>by
  obtain ⟨T,row,rfl⟩:∃T row,R=T++[row]:=⟨R.dropLast,R.getLast (by intro e;rw [e] at hR;simp at hR),(List.dropLast_concat_getLast _).symm⟩
  obtain ⟨st',h'⟩:=Led.leads h hp hq k T (by simpa using hR) fun r h=>hr r (List.mem_append_left _ h)
  have:=h'.snoc p q row hp hq (hr row (by simp))
  rw [←lead_snoc] at this
  rw [List.map_append,←List.append_assoc]
  exact ⟨_,this⟩
theorem rows_full:rows 0 1114111=[[(0,127)],[(194,223),(128,191)],[(224,224),(160,191),(128,191)],[(225,236),(128,191),(128,191)],[(237,237),(128,159),(128,191)],[(238,239),(128,191),(128,191)],[(240,240),(144,191),(128,191),(128,191)],[(241,243),(128,191),(128,191),(128,191)],[(244,244),(128,143),(128,191),(128,191)]]:=by
 decide +kernel
theorem segs_far (c f l:Int) (t:Nat) (ht:t≤3) (hf:0≤f) (h:c<f∨l<c):segs (max c f) (min c l) t=[]:=by
 rw [segs_step _ _ _ ht (by omega),if_neg (by omega)]
theorem segs_near (c f l:Int) (t:Nat) (ht:t≤3) (hf:0≤f) (h1:f≤c) (h2:c≤l):∃p,segs (max c f) (min c l) t=[p]:=by
 have e1:max c f=c:=by omega
 have e2:min c l=c:=by omega
 rw [e1,e2,segs_step _ _ _ ht (by omega),if_pos (Int.le_refl _)]
 obtain ⟨hg,he⟩:=endOf_good c c c c t ht (by omega) (Int.le_refl _) (Int.le_refl _) (Int.le_refl _)
 have:=hg.le
 rw [segs_step _ _ _ ht (by omega),if_neg (by omega)]
 exact ⟨_,rfl⟩
theorem rows_single (c:Int):(rows c c).length≤1:=by
 have e:(rows c c).length=(segs (max c 0) (min c 127) 0).length+((segs (max c 128) (min c 2047) 1).length+((segs (max c 2048) (min c 55295) 2).length+((segs (max c 57344) (min c 65535) 2).length+(segs (max c 65536) (min c 1114111) 3).length))):=by
  simp [rows,pairs,cuts]
 rw [e]
 have key:∀(f l:Int) (t:Nat),t≤3→0≤f→((c<f∨l<c)∧(segs (max c f) (min c l) t).length=0)∨((f≤c∧c≤l)∧(segs (max c f) (min c l) t).length=1):=fun f l t ht hf=>by
  by_cases h:c<f∨l<c
  ·exact .inl ⟨h,by rw [segs_far c f l t ht hf h];rfl⟩
  ·obtain ⟨p,hp⟩:=segs_near c f l t ht hf (by omega) (by omega)
   exact .inr ⟨by omega,by rw [hp];rfl⟩
 have k1:=key 0 127 0 (by decide) (by decide)
 have k2:=key 128 2047 1 (by decide) (by decide)
 have k3:=key 2048 55295 2 (by decide) (by decide)
 have k4:=key 57344 65535 2 (by decide) (by decide)
 have k5:=key 65536 1114111 3 (by decide) (by decide)
 omega
def Disj (r r':List (Int × Int)):Prop:=∀x y,r[0]?=some x→r'[0]?=some y→x.2<y.1∨y.2<x.1
instance (r r':List (Int × Int)):Decidable (Disj r r'):=
 match r,r' with
 | [],_=>isTrue fun x y h=>by cases h
 | _ :: _,[]=>isTrue fun x y _ h=>by cases h
 | x :: _,y :: _=>if h:x.2<y.1∨y.2<x.1 then isTrue fun x' y' h1 h2=>by cases h1;cases h2;exact h else isFalse fun k=>h (k x y rfl rfl)
theorem full_disj:(rows 0 1114111).Pairwise Disj:=by rw [rows_full];decide +kernel
theorem one_disj (c:Int):(rows c c).Pairwise Disj:=by
 have:=rows_single c
 match h:rows c c with
 | []=>exact .nil
 | [r]=>exact List.pairwise_singleton _ _
 | _ :: _ :: _=>rw [h] at this;simp at this
theorem star_end {n0:List Lo} {i k:Nat} (h:∀(j:Nat) (s:Lo),n0[j]?=some s→s.free=[]) (hs:Star n0 i k):k=i:=by
 induction hs with
 | refl=>rfl
 | step _ h1 h2 _=>rw [h _ _ h1] at h2;cases h2
end Sp
namespace Wl
open Go.Lib
open Au (Arc Lo Star May has)
open Sp (rows lead Led bs Path MP InRow word Part Shape FitsN PreN)
def rng (c:Int):Int × Int:=if c=63 then (0,1114111) else (c,c)
def nots (l:List Int):Nat:=(l.filter fun c=>decide (c≠42)).length
theorem nots_cons (c:Int) (l:List Int):nots (c :: l)=(if c=42 then 0 else 1)+nots l:=by
 unfold nots
 by_cases h:c=42
 ·simp [h]
 ·simp [h];omega
theorem nots_append (a b:List Int):nots (a++b)=nots a+nots b:=by simp [nots]
theorem nots_le (l:List Int):nots l≤l.length:=List.length_filter_le _ _
def stepA (s:Nat × Bool × List Lo) (c:Int):Nat × Bool × List Lo:=
 if c=42 then (s.1,true,if s.2.1=true then s.2.2 else lead s.2.2 s.1 s.1 (rows 0 1114111)) else (s.1+1,false,lead s.2.2 s.1 (s.1+1) (rows (rng c).1 (rng c).2))
theorem stepA_star (s:Nat × Bool × List Lo):stepA s 42=(s.1,true,if s.2.1=true then s.2.2 else lead s.2.2 s.1 s.1 (rows 0 1114111)):=if_pos rfl
def blank (m:Nat):List Lo:=List.replicate m ⟨false,[],[]⟩
def runA (m:Nat) (xs:List Int):Nat × Bool × List Lo:=xs.foldl stepA (0,false,blank m)
def setF (n:List Lo) (k:Nat):List Lo:=n.modify k fun s=>⟨true,s.arcs,s.free⟩
def auto (xs:List Int):List Lo:=setF (runA (nots xs+1) xs).2.2 (nots xs)
theorem runA_at (m:Nat) (xs:List Int):(runA m xs).1=nots xs:=by
 have key:∀(xs:List Int) (s:Nat × Bool × List Lo),(xs.foldl stepA s).1=s.1+nots xs:=by
  intro xs
  induction xs with
  | nil=>intro s;rfl
  | cons c r ih=>
   intro s
   rw [List.foldl_cons,ih,nots_cons]
   unfold stepA
   by_cases h:c=42
   ·rw [if_pos h,if_pos h];simp
   ·rw [if_neg h,if_neg h];show s.1+1+_=_;omega
 have:=key xs (0,false,blank m)
 rw [Nat.zero_add] at this
 exact this
theorem runA_last (m:Nat) (xs:List Int):(runA m xs).2.1=decide (xs.getLast?=some 42):=by
 rcases List.eq_nil_or_concat xs with rfl | ⟨l,c,rfl⟩
 ·rfl
 ·rw [List.concat_eq_append]
  unfold runA
  rw [List.foldl_append,List.getLast?_append]
  show (stepA _ c).2.1=_
  unfold stepA
  by_cases h:c=42
  ·rw [if_pos h];simp [h]
  ·rw [if_neg h];simp [h]
theorem runA_step (m:Nat) (xs:List Int) (k:Nat) (h:k<xs.length):runA m (xs.take (k+1))=stepA (runA m (xs.take k)) xs[k]:=by
 rw [List.take_succ_eq_append_getElem h]
 unfold runA
 rw [List.foldl_append]
 rfl
theorem rows_nine (c:Int):(rows (rng c).1 (rng c).2).length≤9:=by
 unfold rng
 split
 ·show (rows 0 1114111).length≤9
  rw [Sp.rows_full]
  decide
 ·have:=Sp.rows_single c
  show (rows c c).length≤9
  omega
def seg (p q:Nat) (lo hi:Int):List Sp.Edge:=(rows lo hi).map fun row=>⟨p,row,q⟩
def segs:Nat→List Int→List Sp.Edge
 | _,[]=>[]
 | p,c :: r=>seg p (p+1) (rng c).1 (rng c).2++segs (p+1) r
def edgesA (cs:List Int) (s:Bool):List Sp.Edge:=segs 0 cs++if s=true then seg cs.length cs.length 0 1114111 else []
def tail (s:Bool):List Int:=if s=true then [42] else []
theorem rows_pos (lo hi:Int):∀row∈rows lo hi,0<row.length:=fun _ h=>(Sp.rows_shape h).pos
theorem fold_led {m:Nat} {base:Nat→Lo}:∀(cs:List Int) (a:Nat) (b:Bool) (E:List Sp.Edge) (n:List Lo) (st:Nat→Nat→Nat),Led m base E st n→(∀c∈cs,c≠42)→a+cs.length<m→∃st',(cs.foldl stepA (a,b,n)).1=a+cs.length∧(b=false→(cs.foldl stepA (a,b,n)).2.1=false)∧Led m base (E++segs a cs) st' (cs.foldl stepA (a,b,n)).2.2
 | [],a,b,E,n,st,h,_,_=>⟨st,rfl,fun h=>h,by simpa [segs] using h⟩
 | c :: r,a,b,E,n,st,h,hc,hm=>by
  have hne:c≠42:=hc c (by simp)
  simp only [List.length_cons] at hm
  obtain ⟨st1,h1⟩:=h.leads (p:=a) (q:=a+1) (by omega) (by omega) _ (rows (rng c).1 (rng c).2) rfl (rows_pos _ _)
  obtain ⟨st2,e1,e2,h2⟩:=fold_led r (a+1) false _ _ st1 h1 (fun d hd=>hc d (by simp [hd])) (by omega)
  have e:(c :: r).foldl stepA (a,b,n)=r.foldl stepA (a+1,false,lead n a (a+1) (rows (rng c).1 (rng c).2)):=by
   rw [List.foldl_cons]
   show r.foldl stepA (stepA (a,b,n) c)=_
   unfold stepA
   rw [if_neg hne]
  rw [e]
  refine ⟨st2,by rw [e1,List.length_cons];omega,fun _=>e2 rfl,?_⟩
  rw [List.append_assoc] at h2
  exact h2
theorem nots_all {cs:List Int} (h:∀c∈cs,c≠42):nots cs=cs.length:=by
 unfold nots
 rw [List.filter_eq_self.2 fun c hc=>decide_eq_true (h c hc)]
theorem nots_tail {cs:List Int} (h:∀c∈cs,c≠42) (s:Bool):nots (cs++tail s)=cs.length:=by
 rw [nots_append,nots_all h]
 cases s <;> rfl
theorem blank_bs (m p:Nat):bs (blank m) p=⟨false,[],[]⟩:=by
 unfold bs blank
 rw [List.getD_eq_getElem?_getD,List.getElem?_replicate]
 split <;> rfl
theorem run_led {cs:List Int} (hc:∀c∈cs,c≠42) (s:Bool):∃st,Led (cs.length+1) (bs (blank (cs.length+1))) (edgesA cs s) st (runA (cs.length+1) (cs++tail s)).2.2:=by
 have h0:Led (blank (cs.length+1)).length (bs (blank (cs.length+1))) [] (fun _ _=>0) (blank (cs.length+1)):=Led.nil _ _ (fun _ h=>Sp.bs_at h) _
 have hl:(blank (cs.length+1)).length=cs.length+1:=by simp [blank]
 rw [hl] at h0
 obtain ⟨st,e1,e2,h1⟩:=fold_led cs 0 false [] _ _ h0 hc (by omega)
 unfold runA edgesA
 rw [List.foldl_append]
 cases s with
 | false=>
  refine ⟨st,?_⟩
  simpa [tail] using h1
 | true=>
  have e3:=e2 rfl
  rw [Nat.zero_add] at e1
  obtain ⟨st2,h2⟩:=h1.leads (p:=cs.length) (q:=cs.length) (by omega) (by omega) _ (rows 0 1114111) rfl (rows_pos _ _)
  refine ⟨st2,?_⟩
  show Led _ _ _ _ (stepA _ 42).2.2
  rw [stepA_star,e3,e1]
  simpa [seg] using h2
end Wl
namespace Wl
open Go.Lib
open Au (Arc Lo Star May has)
open Sp (rows lead Led bs Path MP InRow word Part Shape FitsN PreN star_end nxt)
def Bare (n0:List Lo):Prop:=∀(j:Nat) (s:Lo),n0[j]?=some s→s.arcs=[]∧s.free=[]
theorem setF_at (n:List Lo) (k i:Nat):(setF n k)[i]?=(n[i]?).map fun s=>if k=i then ⟨true,s.arcs,s.free⟩ else s:=by
 unfold setF
 rw [List.getElem?_modify]
 cases n[i]? <;> simp
theorem setF_length (n:List Lo) (k:Nat):(setF n k).length=n.length:=List.length_modify _ _ _
def base (m:Nat):List Lo:=setF (blank (m+1)) m
theorem blank_at (m i:Nat) (s:Lo) (h:(blank m)[i]?=some s):s=⟨false,[],[]⟩∧i<m:=by
 unfold blank at h
 rw [List.getElem?_replicate] at h
 split at h
 ·cases h;exact ⟨rfl,by assumption⟩
 ·cases h
theorem base_bare (m:Nat):Bare (base m):=fun j s h=>by
 unfold base at h
 rw [setF_at] at h
 obtain ⟨s',h1,h2⟩:=Option.map_eq_some_iff.1 h
 obtain ⟨rfl,_⟩:=blank_at _ _ _ h1
 split at h2 <;> (subst h2;exact ⟨rfl,rfl⟩)
theorem base_length (m:Nat):(base m).length=m+1:=by unfold base;rw [setF_length];simp [blank]
theorem bs_setF (n:List Lo) (k:Nat) (hk:k<n.length) (p:Nat):bs (setF n k) p=if p=k then ⟨true,(bs n p).arcs,(bs n p).free⟩ else bs n p:=by
 unfold bs
 rw [List.getD_eq_getElem?_getD,List.getD_eq_getElem?_getD,setF_at]
 by_cases h:p=k
 ·subst h
  rw [List.getElem?_eq_getElem hk]
  simp
 ·rw [if_neg h]
  cases n[p]? with
  | none=>rfl
  | some s=>simp [Ne.symm h]
theorem bs_base (m p:Nat):bs (base m) p=if p=m then ⟨true,[],[]⟩ else ⟨false,[],[]⟩:=by
 unfold base
 rw [bs_setF _ _ (by simp [blank]),blank_bs]
theorem led_setF {n0 n:List Lo} {E:List Sp.Edge} {st:Nat→Nat→Nat} (h:Led n0.length (bs n0) E st n) (k:Nat) (hk:k<n0.length):Led (setF n0 k).length (bs (setF n0 k)) E st (setF n k):=by
 rw [setF_length]
 refine ⟨by rw [setF_length];exact h.size,fun p hp=>?_,fun e ed j r h1 h2 h3=>?_,h.inj,fun i h1 h2=>h.all i h1 (by rw [setF_length] at h2;exact h2),h.src⟩
 ·obtain ⟨A,h1,h2⟩:=h.main p hp
  refine ⟨A,?_,h2⟩
  rw [setF_at,h1,bs_setF n0 k hk]
  by_cases hpk:p=k
  ·simp [hpk]
  ·simp [hpk,Ne.symm hpk]
 ·obtain ⟨h4,h5⟩:=h.chain e ed j r h1 h2 h3
  refine ⟨?_,h5⟩
  rw [setF_at,h4]
  have:k≠st e j:=by omega
  simp [this]
theorem base_may (m:Nat):May (base m) where
 pos:=by rw [base_length];omega
 arc:=fun i h a ha=>by rw [(base_bare m i _ (List.getElem?_eq_getElem h)).1] at ha;cases ha
 free:=fun i h f hf=>by rw [(base_bare m i _ (List.getElem?_eq_getElem h)).2] at hf;cases hf
theorem auto_led {cs:List Int} (hc:∀c∈cs,c≠42) (s:Bool):∃st,Led (base cs.length).length (bs (base cs.length)) (edgesA cs s) st (auto (cs++tail s)):=by
 obtain ⟨st,h⟩:=run_led hc s
 have hl:(blank (cs.length+1)).length=cs.length+1:=by simp [blank]
 have h2:Led (blank (cs.length+1)).length (bs (blank (cs.length+1))) (edgesA cs s) st (runA (cs.length+1) (cs++tail s)).2.2:=by rw [hl];exact h
 refine ⟨st,?_⟩
 unfold auto base
 rw [nots_tail hc s]
 exact led_setF h2 cs.length (by rw [hl];omega)
theorem mem_seg {p q:Nat} {lo hi:Int} {ed:Sp.Edge}:ed∈seg p q lo hi↔∃row∈rows lo hi,ed=⟨p,row,q⟩:=by
 unfold seg
 rw [List.mem_map]
 exact ⟨fun ⟨r,h1,h2⟩=>⟨r,h1,h2.symm⟩,fun ⟨r,h1,h2⟩=>⟨r,h1,h2.symm⟩⟩
theorem mem_segs {ed:Sp.Edge}:∀(cs:List Int) (p:Nat),ed∈segs p cs↔∃(i:Nat) (h:i<cs.length),∃row∈rows (rng cs[i]).1 (rng cs[i]).2,ed=⟨p+i,row,p+i+1⟩
 | [],p=>by simp [segs]
 | c :: r,p=>by
  unfold segs
  rw [List.mem_append,mem_seg,mem_segs r (p+1)]
  constructor
  ·rintro (⟨row,h1,h2⟩ | ⟨i,h,row,h1,h2⟩)
   ·exact ⟨0,by simp,row,h1,h2⟩
   ·refine ⟨i+1,by simpa using h,row,h1,?_⟩
    rw [h2,show p+1+i=p+(i+1) by omega]
  ·rintro ⟨i,h,row,h1,h2⟩
   cases i with
   | zero=>exact .inl ⟨row,h1,h2⟩
   | succ i=>
    refine .inr ⟨i,by simpa using h,row,h1,?_⟩
    rw [h2,show p+1+i=p+(i+1) by omega]
theorem mem_edges {cs:List Int} {s:Bool} {ed:Sp.Edge}:ed∈edgesA cs s↔(∃(i:Nat) (h:i<cs.length),∃row∈rows (rng cs[i]).1 (rng cs[i]).2,ed=⟨i,row,i+1⟩)∨(s=true∧∃row∈rows 0 1114111,ed=⟨cs.length,row,cs.length⟩):=by
 unfold edgesA
 rw [List.mem_append,mem_segs]
 simp only [Nat.zero_add]
 cases s with
 | false=>simp
 | true=>rw [if_pos rfl,mem_seg];simp
theorem edges_shape {cs:List Int} {s:Bool}:∀ed∈edgesA cs s,Shape ed.row∧ed.src≤cs.length∧ed.dst≤cs.length:=fun ed h=>by
 rcases mem_edges.1 h with ⟨i,hi,row,hr,rfl⟩ | ⟨_,row,hr,rfl⟩
 ·exact ⟨Sp.rows_shape hr,Nat.le_of_lt hi,hi⟩
 ·exact ⟨Sp.rows_shape hr,Nat.le_refl _,Nat.le_refl _⟩
def DisjE (a b:Sp.Edge):Prop:=a.src≠b.src∨Sp.Disj a.row b.row
theorem seg_disj (p q:Nat) (lo hi:Int) (h:(rows lo hi).Pairwise Sp.Disj):(seg p q lo hi).Pairwise DisjE:=by
 unfold seg
 rw [List.pairwise_map]
 exact h.imp fun h=>.inr h
theorem rng_disj (c:Int):(rows (rng c).1 (rng c).2).Pairwise Sp.Disj:=by
 unfold rng
 split
 ·exact Sp.full_disj
 ·exact Sp.one_disj c
theorem segs_disj:∀(cs:List Int) (p:Nat),(segs p cs).Pairwise DisjE
 | [],_=>.nil
 | c :: r,p=>by
  unfold segs
  rw [List.pairwise_append]
  refine ⟨seg_disj _ _ _ _ (rng_disj c),segs_disj r (p+1),fun a ha b hb=>.inl ?_⟩
  obtain ⟨_,_,rfl⟩:=mem_seg.1 ha
  obtain ⟨i,_,_,_,rfl⟩:=(mem_segs r (p+1)).1 hb
  show p≠p+1+i
  omega
theorem edges_disj (cs:List Int) (s:Bool):(edgesA cs s).Pairwise DisjE:=by
 unfold edgesA
 rw [List.pairwise_append]
 refine ⟨segs_disj cs 0,?_,fun a ha b hb=>.inl ?_⟩
 ·cases s with
  | false=>exact .nil
  | true=>exact seg_disj _ _ _ _ Sp.full_disj
 ·cases s with
  | false=>cases hb
  | true=>
   obtain ⟨i,hi,_,_,rfl⟩:=(mem_segs cs 0).1 ha
   obtain ⟨_,_,rfl⟩:=mem_seg.1 hb
   show 0+i≠cs.length
   omega
theorem disj_one {E:List Sp.Edge} (h:E.Pairwise DisjE) {e e':Nat} {ed ed':Sp.Edge} {r r':Int × Int} (h1:E[e]?=some ed) (h2:E[e']?=some ed') (hs:ed.src=ed'.src) (h3:ed.row[0]?=some r) (h4:ed'.row[0]?=some r') {c:Nat}
  (a1:r.1≤(c:Int)) (a2:(c:Int)≤r.2) (b1:r'.1≤(c:Int)) (b2:(c:Int)≤r'.2):e=e':=by
 have key:∀ {e e':Nat} {ed ed':Sp.Edge} {r r':Int × Int},E[e]?=some ed→E[e']?=some ed'→ed.src=ed'.src→ed.row[0]?=some r→ed'.row[0]?=some r'→r.1≤(c:Int)→(c:Int)≤r.2→r'.1≤(c:Int)→(c:Int)≤r'.2→¬e<e':=by
  intro e e' ed ed' r r' h1 h2 hs h3 h4 a1 a2 b1 b2 hlt
  obtain ⟨l1,rfl⟩:=List.getElem?_eq_some_iff.1 h1
  obtain ⟨l2,rfl⟩:=List.getElem?_eq_some_iff.1 h2
  rcases List.pairwise_iff_getElem.1 h e e' l1 l2 hlt with k | k
  ·exact k hs
  ·have:=k r r' h3 h4
   omega
 have k1:=key h1 h2 hs h3 h4 a1 a2 b1 b2
 have k2:=key h2 h1 hs.symm h4 h3 b1 b2 a1 a2
 omega
structure Det (n:List Lo):Prop where
 free:∀(j:Nat) (s:Lo),n[j]?=some s→s.free=[]
 one:∀(j:Nat) (s:Lo) (a a':Arc) (c:Nat),n[j]?=some s→a∈s.arcs→a'∈s.arcs→a.lo≤(c:Int)→(c:Int)≤a.hi→a'.lo≤(c:Int)→(c:Int)≤a'.hi→a=a'
theorem led_det {n0 n:List Lo} {E:List Sp.Edge} {st:Nat→Nat→Nat} (h:Led n0.length (bs n0) E st n) (h0:Bare n0) (hd:E.Pairwise DisjE):Det n:=by
 have hmain:∀(p:Nat) (s:Lo),p<n0.length→n[p]?=some s→s.free=[]∧∀a,a∈s.arcs↔∃e ed r,E[e]?=some ed∧ed.src=p∧ed.row[0]?=some r∧a=⟨r.1,r.2,(nxt st e ed 1:Nat)⟩:=fun p s hp hs=>by
  obtain ⟨A,h1,h2⟩:=h.main p hp
  obtain ⟨b1,b2⟩:=h0 p _ (Sp.bs_at hp)
  rw [hs] at h1
  cases h1
  refine ⟨b2,fun a=>?_⟩
  rw [←h2]
  show a∈(bs n0 p).arcs++A↔_
  rw [b1]
  rfl
 have hmore:∀(p:Nat) (s:Lo),n0.length≤p→n[p]?=some s→s.free=[]∧∃a,s.arcs=[a]:=fun p s hp hs=>by
  obtain ⟨hl,_⟩:=List.getElem?_eq_some_iff.1 hs
  obtain ⟨e,ed,j,h1,h2,h3,rfl⟩:=h.all p hp hl
  rw [(h.chain e ed j _ h1 h2 (List.getElem?_eq_getElem h3)).1] at hs
  cases hs
  exact ⟨rfl,_,rfl⟩
 constructor
 ·intro j s hs
  by_cases hj:j<n0.length
  ·exact (hmain j s hj hs).1
  ·exact (hmore j s (by omega) hs).1
 ·intro j s a a' c hs ha ha' c1 c2 d1 d2
  by_cases hj:j<n0.length
  ·obtain ⟨e,ed,r,e1,e2,e3,rfl⟩:=((hmain j s hj hs).2 a).1 ha
   obtain ⟨e',ed',r',f1,f2,f3,rfl⟩:=((hmain j s hj hs).2 a').1 ha'
   obtain rfl:=disj_one hd e1 f1 (e2.trans f2.symm) e3 f3 c1 c2 d1 d2
   rw [e1] at f1
   cases f1
   rw [e3] at f3
   cases f3
   rfl
  ·obtain ⟨x,hx⟩:=(hmore j s (by omega) hs).2
   rw [hx] at ha ha'
   simp only [List.mem_singleton] at ha ha'
   rw [ha,ha']
theorem path_lt {n:List Lo} (hM:May n) {w:List Nat} {k:Nat} (h:Path n w k):k<n.length:=by
 cases h with
 | nil hs=>exact Sp.star_lt hM hs hM.pos
 | snoc h1 h2 h3 h4 h5 hs=>
  obtain ⟨hl,rfl⟩:=List.getElem?_eq_some_iff.1 h2
  have:=hM.arc _ hl _ h3
  exact Sp.star_lt hM hs (by omega)
theorem path_det {n:List Lo} (hd:Det n):∀(m:Nat) (w:List Nat),w.length=m→∀k k',Path n w k→Path n w k'→k=k'
 | 0,w,hw,k,k',h,h'=>by
  obtain rfl:=List.length_eq_zero_iff.1 hw
  rw [star_end hd.free (Sp.path_nil.1 h),star_end hd.free (Sp.path_nil.1 h')]
 | m+1,w,hw,k,k',h,h'=>by
  obtain ⟨v,c,rfl⟩:∃v c,w=v++[c]:=⟨w.dropLast,w.getLast (by intro e;rw [e] at hw;simp at hw),(List.dropLast_concat_getLast _).symm⟩
  obtain ⟨q,s,a,h1,h2,h3,h4,h5,h6⟩:=Sp.path_snoc.1 h
  obtain ⟨q',s',a',g1,g2,g3,g4,g5,g6⟩:=Sp.path_snoc.1 h'
  obtain rfl:=path_det hd m v (by simpa using hw) q q' h1 g1
  rw [h2] at g2
  cases g2
  obtain rfl:=hd.one _ _ _ _ _ h2 h3 g3 h4 h5 g4 g5
  rw [star_end hd.free h6,star_end hd.free g6]
open Classical in
theorem det_few {n:List Lo} (hM:May n) (hd:Det n) (hl:n.length≤19000):∃i,Au.Few n 20000 i:=by
 refine Sp.few_of_code hM (n.length+1) (fun w=>if h:∃k,Path n w k then 1+Classical.choose h else 0) (fun w=>?_) (fun w w' e k=>?_) 20000 (by omega)
 ·split
  ·rename_i h
   have:=path_lt hM (Classical.choose_spec h)
   omega
  ·omega
 ·by_cases h:∃k,Path n w k
  ·by_cases h':∃k,Path n w' k
   ·simp only [h,h',dif_pos] at e
    have e1:Classical.choose h=Classical.choose h':=by omega
    have p1:=Classical.choose_spec h
    have p2:=Classical.choose_spec h'
    rw [←e1] at p2
    constructor
    ·intro hk
     rw [path_det hd _ w rfl _ _ hk p1]
     exact p2
    ·intro hk
     rw [path_det hd _ w' rfl _ _ hk p2]
     exact p1
   ·rw [dif_pos h,dif_neg h'] at e
    omega
  ·by_cases h':∃k,Path n w' k
   ·rw [dif_neg h,dif_pos h'] at e
    omega
   ·exact ⟨fun hk=>absurd ⟨k,hk⟩ h,fun hk=>absurd ⟨k,hk⟩ h'⟩
end Wl
namespace Wl
open Go.Lib
open Au (Arc Lo Star May has)
open Sp (rows lead Led bs Path MP InRow word Part Shape FitsN PreN star_end nxt)
def words (t:List Int):List Nat:=(Ut.enc t).map UInt8.toNat
theorem words_nil:words []=[]:=rfl
theorem words_snoc (t:List Int) (c:Int):words (t++[c])=words t++word c:=by
 unfold words word
 rw [Ut.enc_snoc,List.map_append]
theorem word_ne (c:Int):word c≠[]:=fun h=>Ut.rune_ne c (by unfold word at h;exact List.map_eq_nil_iff.1 h)
inductive Run (E:List Sp.Edge):List Int→Nat→Prop
 | nil:Run E [] 0
 | snoc {t:List Int} {c:Int} {ed:Sp.Edge}:Run E t ed.src→ed∈E→FitsN ed.row (word c)→Run E (t++[c]) ed.dst
theorem run_snoc {E:List Sp.Edge} {t:List Int} {c:Int} {k:Nat}:Run E (t++[c]) k↔∃ed,ed∈E∧Run E t ed.src∧FitsN ed.row (word c)∧k=ed.dst:=by
 constructor
 ·intro h
  generalize ht:t++[c]=t' at h
  cases h with
  | nil=>simp at ht
  | @snoc t2 c2 ed h1 h2 h3=>
   obtain ⟨rfl,h4⟩:=List.append_inj' ht rfl
   cases h4
   exact ⟨ed,h2,h1,h3,rfl⟩
 ·rintro ⟨ed,h1,h2,h3,rfl⟩
  exact .snoc h2 h1 h3
theorem run_nil {E:List Sp.Edge} {k:Nat}:Run E [] k↔k=0:=by
 constructor
 ·intro h
  generalize ht:([]:List Int)=t' at h
  cases h with
  | nil=>rfl
  | snoc _ _ _=>simp at ht
 ·rintro rfl
  exact .nil
theorem mp_run {n0:List Lo} {E:List Sp.Edge} (h0:Bare n0) (hE:∀ed∈E,Shape ed.row) {w:List Nat} {k:Nat} (h:MP n0 E w k):∀t,Ut.allW t=true→w=words t→Run E t k:=by
 have hfree:∀(j:Nat) (s:Lo),n0[j]?=some s→s.free=[]:=fun j s h=>(h0 j s h).2
 induction h with
 | nil hs=>
  intro t _ ht
  have:t=[]:=by
   rcases List.eq_nil_or_concat t with rfl | ⟨t',c,rfl⟩
   ·rfl
   ·rw [List.concat_eq_append,words_snoc] at ht
    have:=congrArg List.length ht
    have h2:=List.length_pos_iff.2 (word_ne c)
    simp at this
    omega
  subst this
  rw [star_end hfree hs]
  exact .nil
 | arc _ h1 h2 _ _ _ _=>rw [(h0 _ _ h1).1] at h2;cases h2
 | @edge w x l ed h1 h2 h3 h4 ih=>
  intro t ha ht
  have hsh:=hE _ h2
  have hx:1≤x.length:=by have:=hsh.pos;have:=h3.1;omega
  rcases List.eq_nil_or_concat t with rfl | ⟨t',c,rfl⟩
  ·have h5:=congrArg List.length ht
   rw [words_nil,List.length_append,List.length_nil] at h5
   omega
  ·rw [List.concat_eq_append] at ha ht ⊢
   rw [words_snoc] at ht
   rw [Ut.allW_append,Bool.and_eq_true] at ha
   have hc:Ut.whole c=true:=by
    have:=ha.2
    rw [Ut.allW_cons,Bool.and_eq_true] at this
    exact this.1
   obtain ⟨e1,e2⟩:=Sp.part_one (Sp.preN_part hsh h3.2 hx).1 (Sp.word_part hc) ht
   have:=ih t' ha.1 e1
   rw [star_end hfree h4]
   exact .snoc this h2 (by rw [←e2];exact h3)
theorem run_mp {n0:List Lo} {E:List Sp.Edge} {t:List Int} {k:Nat} (h:Run E t k):MP n0 E (words t) k:=by
 induction h with
 | nil=>exact .nil .refl
 | snoc h1 h2 h3 ih=>
  rw [words_snoc]
  exact .edge ih h2 h3 .refl
theorem takes_mp0 {n0:List Lo} {E:List Sp.Edge} {st:Nat→Nat→Nat} {n:List Lo} (h:May n0) (hm:May n) (hl:Led n0.length (bs n0) E st n) (hE:∀ed∈E,ed.dst<n0.length) (w:List Nat):
  Au.takes n (Au.first n) w=true↔∃k,MP n0 E w k∧(bs n0 k).fin=true:=by
 rw [Sp.takes_path hm]
 constructor
 ·rintro ⟨k,s,h1,h2,h3⟩
  rcases (Led.path_iff hl h).1 h1 with h4 | ⟨e,ed,u,x,he,hx1,hx2,rfl,_⟩
  ·have hk:=h4.lt h hE
   obtain ⟨A,h5,_⟩:=hl.main k hk
   rw [h2] at h5
   cases h5
   exact ⟨k,h4,h3⟩
  ·rw [(hl.chain e ed x.length _ he hx1 (List.getElem?_eq_getElem hx2)).1] at h2
   cases h2
   cases h3
 ·rintro ⟨k,h1,h2⟩
  obtain ⟨A,h5,_⟩:=hl.main k (h1.lt h hE)
  exact ⟨k,_,(Led.path_iff hl h).2 (.inl h1),h5,h2⟩
def inR (p c:Int):Prop:=(rng p).1≤c∧c≤(rng p).2
def Hd (cs t:List Int):Prop:=∀(i:Nat) (p c:Int),cs[i]?=some p→t[i]?=some c→inR p c
theorem hd_snoc {cs t:List Int} {c:Int}:Hd cs (t++[c])↔Hd cs t∧∀p,cs[t.length]?=some p→inR p c:=by
 constructor
 ·intro h
  refine ⟨fun i p d h1 h2=>h i p d h1 ?_,fun p h1=>h t.length p c h1 (by simp)⟩
  rw [List.getElem?_append_left (List.getElem?_eq_some_iff.1 h2).1]
  exact h2
 ·rintro ⟨h1,h2⟩ i p d h3 h4
  by_cases hi:i<t.length
  ·rw [List.getElem?_append_left hi] at h4
   exact h1 i p d h3 h4
  ·have hl:=(List.getElem?_eq_some_iff.1 h4).1
   simp at hl
   obtain rfl:i=t.length:=by omega
   simp at h4
   subst h4
   exact h2 p h3
theorem hd_nil (cs:List Int):Hd cs []:=fun i p c _ h=>by simp at h
theorem run_iff {cs:List Int} {s:Bool}:∀(m:Nat) (t:List Int),t.length=m→Ut.allW t=true→∀k,Run (edgesA cs s) t k↔Hd cs t∧((k=t.length∧k≤cs.length)∨(s=true∧k=cs.length∧cs.length≤t.length))
 | 0,t,ht,_,k=>by
  obtain rfl:=List.length_eq_zero_iff.1 ht
  rw [run_nil]
  constructor
  ·rintro rfl
   exact ⟨hd_nil _,.inl ⟨rfl,by omega⟩⟩
  ·rintro ⟨_,⟨rfl,_⟩ | ⟨_,rfl,h⟩⟩
   ·rfl
   ·simpa using h
 | m+1,t',ht,ha,k=>by
  obtain ⟨t,c,rfl⟩:∃v c,t'=v++[c]:=⟨t'.dropLast,t'.getLast (by intro e;rw [e] at ht;simp at ht),(List.dropLast_concat_getLast _).symm⟩
  rw [Ut.allW_append,Bool.and_eq_true] at ha
  have hc:Ut.whole c=true:=by
   have:=ha.2
   rw [Ut.allW_cons,Bool.and_eq_true] at this
   exact this.1
  have ih:=run_iff (cs:=cs) (s:=s) m t (by simpa using ht) ha.1
  rw [run_snoc,hd_snoc]
  constructor
  ·rintro ⟨ed,h1,h2,h3,rfl⟩
   obtain ⟨g1,g2⟩:=(ih _).1 h2
   rcases mem_edges.1 h1 with ⟨i,hi,row,hr,rfl⟩ | ⟨hs,row,hr,rfl⟩
   ·have hfit:=(Sp.rows_fit _ _ hc).1 ⟨row,hr,h3⟩
    have hi2:i=t.length:=by
     rcases g2 with ⟨e,_⟩ | ⟨_,e,_⟩
     ·exact e
     ·have:i=cs.length:=e
      omega
    subst hi2
    refine ⟨⟨g1,fun p hp=>?_⟩,.inl ⟨by simp,hi⟩⟩
    rw [List.getElem?_eq_getElem hi] at hp
    cases hp
    exact hfit
   ·have hle:cs.length≤t.length:=by
     rcases g2 with ⟨e,_⟩ | ⟨_,_,e⟩
     ·have:cs.length=t.length:=e
      omega
     ·exact e
    refine ⟨⟨g1,fun p hp=>?_⟩,.inr ⟨hs,rfl,by simp;omega⟩⟩
    rw [List.getElem?_eq_none hle] at hp
    cases hp
  ·rintro ⟨⟨g1,g2⟩,h⟩
   rw [List.length_append,List.length_singleton] at h
   by_cases hlt:t.length<cs.length
   ·obtain rfl:k=t.length+1:=by omega
    obtain ⟨row,hr,hf⟩:=(Sp.rows_fit _ _ hc).2 (g2 _ (List.getElem?_eq_getElem hlt))
    exact ⟨_,mem_edges.2 (.inl ⟨t.length,hlt,row,hr,rfl⟩),(ih _).2 ⟨g1,.inl ⟨rfl,Nat.le_of_lt hlt⟩⟩,hf,rfl⟩
   ·have hs:s=true:=by
     rcases h with ⟨e1,e2⟩ | ⟨e,_⟩
     ·omega
     ·exact e
    obtain rfl:k=cs.length:=by omega
    have hw:=Ut.whole_iff.1 hc
    obtain ⟨row,hr,hf⟩:=(Sp.rows_fit 0 1114111 hc).2 (by omega)
    exact ⟨_,mem_edges.2 (.inr ⟨hs,row,hr,rfl⟩),(ih _).2 ⟨g1,.inr ⟨hs,rfl,by omega⟩⟩,hf,rfl⟩
def Meets (cs:List Int) (s:Bool) (t:List Int):Prop:=Hd cs t∧(cs.length=t.length∨(s=true∧cs.length≤t.length))
theorem auto_may {cs:List Int} (hc:∀c∈cs,c≠42) (s:Bool):May (auto (cs++tail s)):=by
 obtain ⟨st,h⟩:=auto_led hc s
 exact h.may (base_may _) fun ed hed r hr=>(edges_shape ed hed).1.rng r hr
theorem auto_takes {cs:List Int} (hc:∀c∈cs,c≠42) (s:Bool) {t:List Int} (ht:Ut.allW t=true):Au.takes (auto (cs++tail s)) (Au.first (auto (cs++tail s))) (words t)=true↔Meets cs s t:=by
 obtain ⟨st,h⟩:=auto_led hc s
 rw [takes_mp0 (base_may _) (auto_may hc s) h (fun ed hed=>by rw [base_length];have:=(edges_shape ed hed).2.2;omega)]
 have hrun:∀k,MP (base cs.length) (edgesA cs s) (words t) k↔Run (edgesA cs s) t k:=fun k=>⟨fun h=>mp_run (base_bare _) (fun ed hed=>(edges_shape ed hed).1) h t ht rfl,run_mp⟩
 have hfin:∀k,(bs (base cs.length) k).fin=true↔k=cs.length:=fun k=>by
  rw [bs_base]
  split <;> simp [*]
 unfold Meets
 constructor
 ·rintro ⟨k,h1,h2⟩
  obtain rfl:=(hfin k).1 h2
  obtain ⟨g1,g2⟩:=(run_iff _ t rfl ht _).1 ((hrun _).1 h1)
  refine ⟨g1,?_⟩
  rcases g2 with ⟨e,_⟩ | ⟨e1,_,e2⟩
  ·exact .inl e
  ·exact .inr ⟨e1,e2⟩
 ·rintro ⟨g1,g2⟩
  refine ⟨cs.length,(hrun _).2 ((run_iff _ t rfl ht _).2 ⟨g1,?_⟩),(hfin _).2 rfl⟩
  rcases g2 with e | ⟨e1,e2⟩
  ·exact .inl ⟨e,Nat.le_refl _⟩
  ·exact .inr ⟨e1,rfl,e2⟩
end Wl
namespace Sp
theorem nat_or_mask (x k:Nat):x ||| (2 ^ k-1)=x-x%2 ^ k+(2 ^ k-1):=by
 have hp:0<2 ^ k:=Nat.two_pow_pos k
 have hm:x%2 ^ k<2 ^ k:=Nat.mod_lt _ hp
 have hd:2 ^ k*(x/2 ^ k)+x%2 ^ k=x:=Nat.div_add_mod x (2 ^ k)
 have e1:x-x%2 ^ k+(2 ^ k-1)=2 ^ k*(x/2 ^ k)+(2 ^ k-1):=by omega
 rw [e1]
 apply Nat.eq_of_testBit_eq
 intro i
 rw [Nat.testBit_two_pow_mul_add _ (by omega),Nat.testBit_or,Nat.testBit_two_pow_sub_one]
 by_cases h:i<k
 ·simp [h]
 ·simp only [h,decide_false,Bool.or_false,if_false]
  rw [Nat.testBit_div_two_pow,Nat.sub_add_cancel (by omega)]
theorem nat_clear (x k:Nat) (hx:x<2 ^ 64) (_hk:k≤64):x &&& (2 ^ 64-1-(2 ^ k-1))=x-x%2 ^ k:=by
 have hp:0<2 ^ k:=Nat.two_pow_pos k
 have hd:2 ^ k*(x/2 ^ k)+x%2 ^ k=x:=Nat.div_add_mod x (2 ^ k)
 have hk2:2 ^ k≤2 ^ 64:=Nat.pow_le_pow_right (by omega) _hk
 have e1:x-x%2 ^ k=2 ^ k*(x/2 ^ k)+0:=by omega
 rw [e1]
 apply Nat.eq_of_testBit_eq
 intro i
 have e2:2 ^ 64-1-(2 ^ k-1)=2 ^ 64-((2 ^ k-1)+1):=by omega
 rw [Nat.testBit_two_pow_mul_add _ (by omega),Nat.testBit_and,e2,Nat.testBit_two_pow_sub_succ (by omega),Nat.testBit_two_pow_sub_one,Nat.zero_testBit]
 by_cases h:i<k
 ·simp [h]
 ·simp only [h,decide_false,Bool.not_false,Bool.and_true,if_false]
  rw [Nat.testBit_div_two_pow,Nat.sub_add_cancel (by omega)]
  by_cases h6:i<64
  ·simp [h6]
  ·have:x.testBit i=false:=Nat.testBit_lt_two_pow (Nat.lt_of_lt_of_le hx (Nat.pow_le_pow_right (by omega) (by omega)))
   simp [this]
theorem wrap_small (n:Nat) (h:n<9223372036854775808):IntKind.i64.wrap (n:Int)=(n:Int):=by
 rw [IntKind.wrap_i64]
 omega
theorem ofInt_nat (n:Nat) (h:n<2 ^ 64):(BitVec.ofInt 64 (n:Int)).toNat=n:=by
 rw [BitVec.ofInt_natCast,BitVec.toNat_ofNat]
 exact Nat.mod_eq_of_lt h
theorem and_nat (x k:Nat) (hx:x<2 ^ 40) (hk:k≤40):bits .and .i64 (x:Int) ((2 ^ k-1:Nat):Int)=((x%2 ^ k:Nat):Int):=by
 have hk2:2 ^ k≤2 ^ 40:=Nat.pow_le_pow_right (by omega) hk
 show IntKind.i64.wrap ((BitVec.ofInt 64 (x:Int) &&& BitVec.ofInt 64 ((2 ^ k-1:Nat):Int)).toNat:Int)=_
 rw [BitVec.toNat_and,ofInt_nat x (by omega),ofInt_nat _ (by omega),Nat.and_two_pow_sub_one_eq_mod]
 exact wrap_small _ (Nat.lt_of_le_of_lt (Nat.mod_le _ _) (by omega))
theorem or_nat (x k:Nat) (hx:x<2 ^ 40) (hk:k≤40):bits .or .i64 (x:Int) ((2 ^ k-1:Nat):Int)=((x-x%2 ^ k+(2 ^ k-1):Nat):Int):=by
 have hk2:2 ^ k≤2 ^ 40:=Nat.pow_le_pow_right (by omega) hk
 show IntKind.i64.wrap ((BitVec.ofInt 64 (x:Int) ||| BitVec.ofInt 64 ((2 ^ k-1:Nat):Int)).toNat:Int)=_
 rw [BitVec.toNat_or,ofInt_nat x (by omega),ofInt_nat _ (by omega),nat_or_mask]
 exact wrap_small _ (by omega)
theorem clear_nat (x k:Nat) (hx:x<2 ^ 40) (hk:k≤40):bits .andNot .i64 (x:Int) ((2 ^ k-1:Nat):Int)=((x-x%2 ^ k:Nat):Int):=by
 have hk2:2 ^ k≤2 ^ 40:=Nat.pow_le_pow_right (by omega) hk
 show IntKind.i64.wrap ((BitVec.ofInt 64 (x:Int) &&& ~~~ BitVec.ofInt 64 ((2 ^ k-1:Nat):Int)).toNat:Int)=_
 rw [BitVec.toNat_and,BitVec.toNat_not,ofInt_nat x (by omega),ofInt_nat _ (by omega),nat_clear x k (by omega) (by omega)]
 exact wrap_small _ (by omega)
theorem and_int (x:Int) (k m:Nat) (hm:m=2 ^ k) (h0:0≤x) (h1:x<1099511627776) (hk:k≤40):bits .and .i64 x ((m:Int)-1)=x%m:=by
 obtain ⟨n,rfl⟩:∃n:Nat,x=n:=⟨x.toNat,by omega⟩
 have hp:0<2 ^ k:=Nat.two_pow_pos k
 have:=and_nat n k (by omega) hk
 rw [show ((m:Int)-1)=((2 ^ k-1:Nat):Int) by omega,this,hm]
 simp
theorem or_int (x:Int) (k m:Nat) (hm:m=2 ^ k) (h0:0≤x) (h1:x<1099511627776) (hk:k≤40):bits .or .i64 x ((m:Int)-1)=x-x%m+((m:Int)-1):=by
 obtain ⟨n,rfl⟩:∃n:Nat,x=n:=⟨x.toNat,by omega⟩
 have hp:0<2 ^ k:=Nat.two_pow_pos k
 have hl:=Nat.mod_le n (2 ^ k)
 have:=or_nat n k (by omega) hk
 rw [show ((m:Int)-1)=((2 ^ k-1:Nat):Int) by omega,this,hm]
 rw [Int.natCast_add,Int.natCast_sub hl,Int.natCast_emod]
theorem clear_int (x:Int) (k m:Nat) (hm:m=2 ^ k) (h0:0≤x) (h1:x<1099511627776) (hk:k≤40):bits .andNot .i64 x ((m:Int)-1)=x-x%m:=by
 obtain ⟨n,rfl⟩:∃n:Nat,x=n:=⟨x.toNat,by omega⟩
 have hp:0<2 ^ k:=Nat.two_pow_pos k
 have hl:=Nat.mod_le n (2 ^ k)
 have:=clear_nat n k (by omega) hk
 rw [show ((m:Int)-1)=((2 ^ k-1:Nat):Int) by omega,this,hm]
 rw [Int.natCast_sub hl,Int.natCast_emod]
end Sp
section
open Go.RowKit
namespace Sp
theorem pw_nat (t:Nat):pw t=((2 ^ (6*t):Nat):Int):=by
 unfold pw
 rw [Nat.pow_mul]
 simp
theorem pw_le (t:Nat) (h:t≤3):1≤pw t∧pw t≤262144:=⟨pw_pos t,(pw_cases t 3 (by omega) h).1⟩
theorem and_pw (x:Int) (t:Nat) (ht:t≤3) (h0:0≤x) (h1:x<1099511627776):bits .and .i64 x (pw t-1)=x%pw t:=by
 rw [pw_nat]
 exact and_int x (6*t) _ rfl h0 h1 (by omega)
theorem or_pw (x:Int) (t:Nat) (ht:t≤3) (h0:0≤x) (h1:x<1099511627776):bits .or .i64 x (pw t-1)=x-x%pw t+(pw t-1):=by
 rw [pw_nat]
 exact or_int x (6*t) _ rfl h0 h1 (by omega)
theorem clear_pw (x:Int) (t:Nat) (ht:t≤3) (h0:0≤x) (h1:x<1099511627776):bits .andNot .i64 x (pw t-1)=x-x%pw t:=by
 rw [pw_nat]
 exact clear_int x (6*t) _ rfl h0 h1 (by omega)
end Sp
namespace Sp
theorem endOf_lt {c last:Int} {tails t:Nat} (h:turns c last tails 0=t) (ht:t<tails):endOf c last tails=(min last (c-c%pw (t+1)+(pw (t+1)-1))+1)-(min last (c-c%pw (t+1)+(pw (t+1)-1))+1)%pw t-1:=by
 unfold endOf
 rw [h]
 dsimp only
 rw [if_pos ht]
theorem endOf_eq {c last:Int} {tails t:Nat} (h:turns c last tails 0=t) (ht:¬t<tails):endOf c last tails=(last+1)-(last+1)%pw t-1:=by
 unfold endOf
 rw [h]
 dsimp only
 rw [if_neg ht]
end Sp
theorem ret_iY {a b:Int} (h:a=b):Ending.returned (.int .i64 a)=.returned (.int .i64 b):=by rw [h]
theorem turn_any (t:Nat) (ht:t≤3) (w:World):Calls Tryz.prog 130 #[.int .i64 t] w fun e w'=>e=.returned (.int .i64 (Sp.pw t-1))∧w=w':=by
 have h:t=0∨t=1∨t=2∨t=3:=by omega
 clear ht
 rcases h with rfl | rfl | rfl | rfl
 all_goals
  go_enter Tryz.func130,Tryz.ntmps130
  go_wp2_with fail
  go_ret
  exact ⟨ret_iY (by decide +kernel),rfl⟩
theorem endOf_any (c last:Int) (tails:Nat) (w:World) (h0:0≤c) (hc:c≤last) (hl:last≤1114111) (ht:tails≤3):
  Calls Tryz.prog 118 #[.int .i64 c,.int .i64 last,.int .i64 tails] w fun e w'=>e=.returned (.int .i64 (Sp.endOf c last tails))∧w=w':=by
 go_enter Tryz.func118,Tryz.ntmps118
 go_wp2_with fail
 go_loop [7] (fun i=>∃t:Nat,t≤tails∧i=.int .i64 t∧Hid (Sp.turns c last tails 0=Sp.turns c last (tails-t) t)) (fun i=>tails-(intOf i).toNat)
 case atStart=>exact ⟨0,Nat.zero_le _,rfl,rfl⟩
 case round=>
  obtain ⟨t,htl,rfl,hT⟩:=hrel
  by_cases hlt:t<tails
  ·have i1:(t:Int)<(tails:Int):=by omega
   have ht3:t+1≤3:=by omega
   have hand:=Sp.and_pw c (t+1) ht3 h0 (by omega)
   have hor:=Sp.or_pw c (t+1) ht3 h0 (by omega)
   obtain ⟨p1,p2⟩:=Sp.pw_le (t+1) ht3
   have hm0:=Int.emod_nonneg c (show Sp.pw (t+1)≠0 by omega)
   have hm1:=Int.emod_lt_of_pos c (show 0<Sp.pw (t+1) by omega)
   have H:Hid (Calls Tryz.prog 130 #[.int .i64 ((t:Int)+1)] w fun e w'=>e=.returned (.int .i64 (Sp.pw (t+1)-1))∧w=w'):=by
    have:=turn_any (t+1) ht3 w
    rw [Int.natCast_succ] at this
    exact lh this
   obtain ⟨m,hm⟩:∃m,tails-t=m+1:=⟨tails-t-1,by omega⟩
   have hstep:Sp.turns c last (m+1) t=if c%Sp.pw (t+1)=0∧c+(Sp.pw (t+1)-1)≤last then Sp.turns c last m (t+1) else t:=rfl
   have hm2:tails-(t+1)=m:=by omega
   have HT:Hid (c%Sp.pw (t+1)=0∧c+(Sp.pw (t+1)-1)≤last→Sp.turns c last tails 0=Sp.turns c last (tails-(t+1)) (t+1)):=by
    intro hh
    rw [hT.out,hm,hstep,if_pos hh,hm2]
   have HN:Hid (¬(c%Sp.pw (t+1)=0∧c+(Sp.pw (t+1)-1)≤last)→Sp.turns c last tails 0=t):=by
    intro hh
    rw [hT.out,hm,hstep,if_neg hh]
   clear hm hstep hm2 hT
   by_cases hz:c%Sp.pw (t+1)=0
   ·by_cases hle:c+(Sp.pw (t+1)-1)≤last
    ·have hT2:Hid (Sp.turns c last tails 0=Sp.turns c last (tails-(t+1)) (t+1)):=HT.out ⟨hz,hle⟩
     rw [hz] at hand hor
     rw [Int.sub_zero] at hor
     clear hz hm0 hm1 HT HN
     generalize Sp.pw (t+1)=P at *
     go_wp2_with (go_at_call 130;refine H.out.mono ?_;rintro e w' ⟨rfl,rfl⟩)
     go_round
     case rel=>exact ⟨t+1,by omega,by go_num,hT2⟩
     case measure=>simp [intOf];omega
    ·have hfin:Hid (Sp.turns c last tails 0=t):=HN.out (fun h=>hle h.2)
     rw [hz] at hand hor
     rw [Int.sub_zero] at hor
     clear HT HN
     obtain ⟨q1,q2⟩:=Sp.pw_le t (by omega)
     have H0:=lh (turn_any t (by omega) w)
     have hE:=Sp.endOf_lt hfin.out hlt
     skip
     clear hfin
     by_cases hmin:last≤c+(Sp.pw (t+1)-1)
     ·rw [show min last (c-c%Sp.pw (t+1)+(Sp.pw (t+1)-1))=last by omega] at hE
      have hcl:=Sp.clear_pw (last+1) t (by omega) (by omega) (by omega)
      have HF:=lh hE
      have hn0:=Int.emod_nonneg (last+1) (show Sp.pw t≠0 by omega)
      have hn1:=Int.emod_lt_of_pos (last+1) (show 0<Sp.pw t by omega)
      clear hE hz hm0 hm1
      generalize Sp.pw (t+1)=P at *
      generalize Sp.pw t=R at *
      skip
      go_wp2_with (go_at_call 130;first | (refine H.out.mono ?_;rintro e w' ⟨rfl,rfl⟩) | (refine H0.out.mono ?_;rintro e w' ⟨rfl,rfl⟩))
      go_ret
      exact ⟨ret_iY HF.out.symm,rfl⟩
     ·exact absurd (show c+(Sp.pw (t+1)-1)≤last by omega) hle
   ·have hfin:Hid (Sp.turns c last tails 0=t):=HN.out (fun h=>hz h.1)
    have hz1:(c%Sp.pw (t+1)==0)=false:=by simpa using hz
    clear HT HN
    obtain ⟨q1,q2⟩:=Sp.pw_le t (by omega)
    have H0:=lh (turn_any t (by omega) w)
    have hE:=Sp.endOf_lt hfin.out hlt
    skip
    clear hfin
    by_cases hmin:last≤c-c%Sp.pw (t+1)+(Sp.pw (t+1)-1)
    ·rw [show min last (c-c%Sp.pw (t+1)+(Sp.pw (t+1)-1))=last by omega] at hE
     have hcl:=Sp.clear_pw (last+1) t (by omega) (by omega) (by omega)
     have HF:=lh hE
     have hn0:=Int.emod_nonneg (last+1) (show Sp.pw t≠0 by omega)
     have hn1:=Int.emod_lt_of_pos (last+1) (show 0<Sp.pw t by omega)
     clear hE hz
     generalize Sp.pw (t+1)=P at *
     generalize Sp.pw t=R at *
     generalize c%P=cm at *
     go_wp2_with (go_at_call 130;first | (refine H.out.mono ?_;rintro e w' ⟨rfl,rfl⟩) | (refine H0.out.mono ?_;rintro e w' ⟨rfl,rfl⟩))
     go_ret
     exact ⟨ret_iY HF.out.symm,rfl⟩
    ·rw [show min last (c-c%Sp.pw (t+1)+(Sp.pw (t+1)-1))=c-c%Sp.pw (t+1)+(Sp.pw (t+1)-1) by omega] at hE
     have hcl:=Sp.clear_pw (c-c%Sp.pw (t+1)+(Sp.pw (t+1)-1)+1) t (by omega) (by omega) (by omega)
     have HF:=lh hE
     have hn0:=Int.emod_nonneg (c-c%Sp.pw (t+1)+(Sp.pw (t+1)-1)+1) (show Sp.pw t≠0 by omega)
     have hn1:=Int.emod_lt_of_pos (c-c%Sp.pw (t+1)+(Sp.pw (t+1)-1)+1) (show 0<Sp.pw t by omega)
     clear hE hz
     generalize Sp.pw (t+1)=P at *
     generalize Sp.pw t=R at *
     generalize c%P=cm at *
     go_wp2_with (go_at_call 130;first | (refine H.out.mono ?_;rintro e w' ⟨rfl,rfl⟩) | (refine H0.out.mono ?_;rintro e w' ⟨rfl,rfl⟩))
     go_ret
     exact ⟨ret_iY HF.out.symm,rfl⟩
  ·have hfin:Hid (Sp.turns c last tails 0=t):=by
    show _=_
    rw [hT.out,show tails-t=0 by omega]
    rfl
   have H0:=lh (turn_any t (by omega) w)
   have H:=H0
   obtain ⟨q1,q2⟩:=Sp.pw_le t (by omega)
   have hE:=Sp.endOf_eq hfin.out hlt
   have hcl:=Sp.clear_pw (last+1) t (by omega) (by omega) (by omega)
   have HF:=lh hE
   have hn0:=Int.emod_nonneg (last+1) (show Sp.pw t≠0 by omega)
   have hn1:=Int.emod_lt_of_pos (last+1) (show 0<Sp.pw t by omega)
   clear hfin hT hE
   generalize Sp.pw t=R at *
   go_wp2_with (go_at_call 130;first | (refine H.out.mono ?_;rintro e w' ⟨rfl,rfl⟩) | (refine H0.out.mono ?_;rintro e w' ⟨rfl,rfl⟩))
   go_ret
   exact ⟨ret_iY HF.out.symm,rfl⟩
end
end Go.Proofs.YtmdefnbpimfbgaaGreatDoor

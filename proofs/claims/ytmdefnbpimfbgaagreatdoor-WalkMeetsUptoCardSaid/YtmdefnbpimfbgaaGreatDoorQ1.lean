/-
  Lemmas on automata, dictionaries and the walk over them, the program's calls and the given ones.
-/
import Derived.Lib.ValidLaws
import Derived.Lib.RuneCount
import Derived.Test.YtmdefnbpimfbgaaGreatDoorQ2
set_option maxRecDepth 100000
set_option maxHeartbeats 16000000
namespace Go.Proofs.YtmdefnbpimfbgaaGreatDoor
namespace Ut
open Go.Lib
def whole (c:Int):Bool:=decide ((0≤c∧c<55296)∨(57343<c∧c<1114112))
theorem whole_iff {c:Int}:whole c=true↔((0≤c∧c<55296)∨(57343<c∧c<1114112)):=decide_eq_true_iff
def allW (l:List Int):Bool:=l.all whole
def enc (l:List Int):List UInt8:=l.flatMap encodeRune
def decGo:Nat→List UInt8→List Int
 | 0,_=>[]
 | n+1,l=>if l=[] then [] else ((decodeL l).1:Int) :: decGo n (l.drop (decodeL l).2)
def dec (l:List UInt8):List Int:=decGo l.length l
def Bad (l:List UInt8):Prop:=(decodeL l).1=65533∧(decodeL l).2=1
instance (l:List UInt8):Decidable (Bad l):=by unfold Bad;infer_instance
theorem enc_cons (c:Int) (l:List Int):enc (c :: l)=encodeRune c++enc l:=rfl
theorem enc_append (a b:List Int):enc (a++b)=enc a++enc b:=by simp [enc]
theorem enc_snoc (a:List Int) (c:Int):enc (a++[c])=enc a++encodeRune c:=by rw [enc_append];simp [enc]
theorem allW_append (a b:List Int):allW (a++b)=(allW a&&allW b):=by simp [allW]
theorem allW_cons (c:Int) (l:List Int):allW (c :: l)=(whole c&&allW l):=rfl
theorem allW_iff {l:List Int}:allW l=true↔∀c∈l,whole c=true:=List.all_eq_true
theorem decGo_nil:∀n,decGo n []=[]
 | 0=>rfl
 | _+1=>by simp [decGo]
theorem decGo_fuel:∀(n m:Nat) (l:List UInt8),l.length≤n→l.length≤m→decGo n l=decGo m l
 | 0,m,l,hn,_=>by
  have:l=[]:=List.eq_nil_of_length_eq_zero (by omega)
  subst this
  rw [decGo_nil,decGo_nil]
 | n+1,0,l,_,hm=>by
  have:l=[]:=List.eq_nil_of_length_eq_zero (by omega)
  subst this
  rw [decGo_nil,decGo_nil]
 | n+1,m+1,l,hn,hm=>by
  unfold decGo
  by_cases hne:l=[]
  ·simp [hne]
  ·have hw:=decodeL_width l
   have hl:0<l.length:=List.length_pos_iff.2 hne
   rw [if_neg hne,if_neg hne,decGo_fuel n m (l.drop (decodeL l).2) (by rw [List.length_drop];omega) (by rw [List.length_drop];omega)]
theorem dec_nil:dec []=[]:=rfl
theorem dec_step (l:List UInt8) (hne:l≠[]):dec l=((decodeL l).1:Int) :: dec (l.drop (decodeL l).2):=by
 have hl:0<l.length:=List.length_pos_iff.2 hne
 have hw:=decodeL_width l
 obtain ⟨n,hn⟩:∃n,l.length=n+1:=⟨l.length-1,by omega⟩
 unfold dec
 rw [hn]
 show (if l=[] then [] else _)=_
 rw [if_neg hne,decGo_fuel n (l.drop (decodeL l).2).length _ (by rw [List.length_drop];omega) (Nat.le_refl _)]
theorem dec_length:∀(n:Nat) (l:List UInt8),(decGo n l).length≤n
 | 0,_=>by simp [decGo]
 | n+1,l=>by
  unfold decGo
  split
  ·simp
  ·rw [List.length_cons]
   have:=dec_length n (l.drop (decodeL l).2)
   omega
theorem run_cases (c:Int) (h:whole c=true):
  (0≤c∧c≤127∧encodeRuneZ c=[c])∨(128≤c∧c≤2047∧encodeRuneZ c=[192+c/64,128+c%64]) ∨
  (((2048≤c∧c<55296)∨(57343<c∧c≤65535))∧encodeRuneZ c=[224+c/4096,128+c/64%64,128+c%64]) ∨
  (65536≤c∧c≤1114111∧encodeRuneZ c=[240+c/262144,128+c/4096%64,128+c/64%64,128+c%64]):=by
 rw [whole_iff] at h
 by_cases h1:c≤127
 ·exact .inl ⟨by omega,h1,encodeRuneZ_one (by omega) h1⟩
 by_cases h2:c≤2047
 ·exact .inr (.inl ⟨by omega,h2,encodeRuneZ_two (by omega) h2⟩)
 by_cases h3:c≤65535
 ·exact .inr (.inr (.inl ⟨by omega,encodeRuneZ_three (by omega)⟩))
 ·exact .inr (.inr (.inr ⟨by omega,by omega,encodeRuneZ_four (by omega) (by omega)⟩))
theorem byteZ (x:Int) (_h0:0≤x) (h1:x<256):(x.toNat.toUInt8).toNat=x.toNat:=by
 simp
 omega
theorem byteI (x:Int) (h0:0≤x) (h1:x<256):((x.toNat.toUInt8).toNat:Int)=x:=by
 rw [byteZ x h0 h1];omega
theorem rune_length (c:Int):1≤(encodeRune c).length∧(encodeRune c).length≤4:=by
 unfold encodeRune encodeRuneZ
 repeat' split
 all_goals simp
theorem enc_length (l:List Int):l.length≤(enc l).length∧(enc l).length≤4*l.length:=by
 induction l with
 | nil=>simp [enc]
 | cons c t ih=>
  have:=rune_length c
  rw [enc_cons,List.length_append,List.length_cons]
  omega
theorem decode_whole (l:List UInt8):whole ((decodeL l).1:Int)=true:=by
 rw [whole_iff]
 rw [decodeL_N]
 have k0:=(l.getD 0 0).toNat_lt
 have k1:=(l.getD 1 0).toNat_lt
 have k2:=(l.getD 2 0).toNat_lt
 have k3:=(l.getD 3 0).toNat_lt
 rcases decodeN_shape l.length (l.getD 0 0).toNat (l.getD 1 0).toNat (l.getD 2 0).toNat (l.getD 3 0).toNat with ⟨c,e⟩ | ⟨c1,c2,c3,cv,e⟩ | ⟨c1,c2,c3,c4,cv,cs,e⟩ | ⟨c1,c2,c3,c4,c5,cv,cw,e⟩ | e
 all_goals (rw [e];dsimp only;omega)
theorem validD_good (l:List UInt8) (hne:l≠[]) (hb:¬Bad l):validD l=validD (l.drop (decodeL l).2):=by rw [validD_step l hne];exact if_neg hb
theorem validD_bad (l:List UInt8) (hne:l≠[]) (hb:Bad l):validD l=false:=by rw [validD_step l hne];exact if_pos hb
theorem enc_dec:∀(n:Nat) (l:List UInt8),l.length≤n→validD l=true→enc (dec l)=l∧allW (dec l)=true:=by
 intro n
 induction n with
 | zero=>
  intro l hl _
  have:l=[]:=List.eq_nil_of_length_eq_zero (by omega)
  subst this
  exact ⟨rfl,rfl⟩
 | succ n ih=>
  intro l hl hv
  by_cases hne:l=[]
  ·subst hne;exact ⟨rfl,rfl⟩
  ·by_cases hb:Bad l
   ·rw [validD_bad l hne hb] at hv;cases hv
   ·have hw:=decodeL_width l
    have hl0:0<l.length:=List.length_pos_iff.2 hne
    rw [validD_good l hne hb] at hv
    obtain ⟨i1,i2⟩:=ih (l.drop (decodeL l).2) (by rw [List.length_drop];omega) hv
    rw [dec_step l hne,enc_cons,allW_cons,i1,i2,encode_decode l hne hb,List.take_append_drop,decode_whole l]
    exact ⟨rfl,rfl⟩
end Ut
namespace Sp
open Go.Lib
def cuts:List (Int × Int × Nat):=[(0,127,0),(128,2047,1),(2048,55295,2),(57344,65535,2),(65536,1114111,3)]
def pw (t:Nat):Int:=64 ^ t
theorem pw0:pw 0=1:=rfl
theorem pw1:pw 1=64:=rfl
theorem pw2:pw 2=4096:=rfl
theorem pw3:pw 3=262144:=rfl
def turns (c last:Int):Nat→Nat→Nat
 | 0,t=>t
 | n+1,t=>if c%pw (t+1)=0∧c+(pw (t+1)-1)≤last then turns c last n (t+1) else t
def endOf (c last:Int) (tails:Nat):Int:=
 let t:=turns c last tails 0
 let l:=if t<tails then min last (c-c%pw (t+1)+(pw (t+1)-1)) else last
 (l+1)-(l+1)%pw t-1
structure Good (f l:Int) (tails t:Nat) (a b:Int):Prop where
 tl:t≤tails
 lo:f≤a
 hi:b≤l
 le:a≤b
 a0:a%pw t=0
 b0:(b+1)%pw t=0
 pre:t<tails→a/pw (t+1)=b/pw (t+1)
theorem turns_le (c last:Int):∀n t,t≤turns c last n t∧turns c last n t≤t+n
 | 0,t=>⟨Nat.le_refl _,Nat.le_refl _⟩
 | n+1,t=>by
  unfold turns
  split
  ·have:=turns_le c last n (t+1);omega
  ·omega
theorem turns_at (c last:Int):∀n t,c%pw t=0∧c+(pw t-1)≤last→c%pw (turns c last n t)=0∧c+(pw (turns c last n t)-1)≤last
 | 0,t,h=>h
 | n+1,t,h=>by
  unfold turns
  split
  ·rename_i h2;exact turns_at c last n (t+1) h2
  ·exact h
theorem turns_no (c last:Int):∀n t,turns c last n t<t+n→¬(c%pw (turns c last n t+1)=0∧c+(pw (turns c last n t+1)-1)≤last)
 | 0,t,h=>by simp [turns] at h
 | n+1,t,h=>by
  unfold turns at h ⊢
  split at h
  ·rename_i h2
   rw [if_pos h2]
   exact turns_no c last n (t+1) (by omega)
  ·rename_i h2
   rw [if_neg h2]
   exact h2
theorem endOf_good (c last f l:Int) (tails:Nat) (ht:tails≤3) (_h0:0≤c) (hf:f≤c) (hc:c≤last) (hl:last≤l):
  Good f l tails (turns c last tails 0) c (endOf c last tails)∧endOf c last tails≤last:=by
 have h1:=turns_le c last tails 0
 have h2:=turns_at c last tails 0 ⟨by rw [pw0];omega,by rw [pw0];omega⟩
 unfold endOf
 generalize turns c last tails 0=t at *
 have ht3:t=0∨t=1∨t=2∨t=3:=by omega
 by_cases hlt:t<tails
 ·rcases ht3 with rfl | rfl | rfl | rfl
  ·simp only [pw0,Nat.zero_add,pw1,hlt,if_true] at *
   refine ⟨⟨by omega,by omega,by omega,by omega,by rw [pw0];omega,by rw [pw0];omega,fun _=>by rw [Nat.zero_add,pw1];omega⟩,by omega⟩
  ·simp only [Nat.reduceAdd,pw1,pw2,hlt,if_true] at *
   refine ⟨⟨by omega,by omega,by omega,by omega,by rw [pw1];omega,by rw [pw1];omega,fun _=>by rw [pw2];omega⟩,by omega⟩
  ·simp only [Nat.reduceAdd,pw2,pw3,hlt,if_true] at *
   refine ⟨⟨by omega,by omega,by omega,by omega,by rw [pw2];omega,by rw [pw2];omega,fun _=>by rw [pw3];omega⟩,by omega⟩
  ·omega
 ·obtain rfl:t=tails:=by omega
  rcases ht3 with rfl | rfl | rfl | rfl
  all_goals
   simp only [pw0,pw1,pw2,pw3,Nat.lt_irrefl,if_false] at *
   refine ⟨⟨by omega,by omega,by omega,by omega,by simp only [pw0,pw1,pw2,pw3];omega,by simp only [pw0,pw1,pw2,pw3];omega,fun h=>absurd h (Nat.lt_irrefl _)⟩,by omega⟩
def seg (last:Int) (tails:Nat):Nat→Int→List (Int × Int)
 | 0,_=>[]
 | n+1,c=>if c≤last then (c,endOf c last tails) :: seg last tails n (endOf c last tails+1) else []
def segs (c last:Int) (tails:Nat):List (Int × Int):=seg last tails (last+1-c).toNat c
theorem seg_fuel (last:Int) (tails:Nat) (ht:tails≤3):∀n m c,0≤c→(last+1-c).toNat≤n→(last+1-c).toNat≤m→seg last tails n c=seg last tails m c
 | 0,0,c,_,_,_=>rfl
 | 0,m+1,c,_,h,_=>by unfold seg;rw [if_neg (by omega)]
 | n+1,0,c,_,_,h=>by unfold seg;rw [if_neg (by omega)]
 | n+1,m+1,c,h0,h1,h2=>by
  unfold seg
  by_cases hc:c≤last
  ·rw [if_pos hc,if_pos hc]
   obtain ⟨hg,he⟩:=endOf_good c last c last tails ht h0 (Int.le_refl _) hc (Int.le_refl _)
   have:=hg.le
   rw [seg_fuel last tails ht n m (endOf c last tails+1) (by omega) (by omega) (by omega)]
  ·rw [if_neg hc,if_neg hc]
theorem segs_step (c last:Int) (tails:Nat) (ht:tails≤3) (h0:0≤c):segs c last tails=if c≤last then (c,endOf c last tails) :: segs (endOf c last tails+1) last tails else []:=by
 by_cases hc:c≤last
 ·rw [if_pos hc]
  obtain ⟨hg,he⟩:=endOf_good c last c last tails ht h0 (Int.le_refl _) hc (Int.le_refl _)
  have:=hg.le
  unfold segs
  obtain ⟨n,hn⟩:∃n,(last+1-c).toNat=n+1:=⟨(last+1-c).toNat-1,by omega⟩
  rw [hn]
  have e:seg last tails (n+1) c=if c≤last then (c,endOf c last tails) :: seg last tails n (endOf c last tails+1) else []:=rfl
  rw [e,if_pos hc,seg_fuel last tails ht n _ (endOf c last tails+1) (by omega) (by omega) (Nat.le_refl _)]
 ·rw [if_neg hc]
  unfold segs
  rw [show (last+1-c).toNat=0 by omega]
  rfl
def pairs (lo hi:Int):List (Int × Int):=cuts.flatMap fun k=>segs (max lo k.1) (min hi k.2.1) k.2.2
def rowOf (p:Int × Int):List (Int × Int):=(encodeRuneZ p.1).zip (encodeRuneZ p.2)
def rows (lo hi:Int):List (List (Int × Int)):=(pairs lo hi).map rowOf
theorem segs_all (f l:Int) (tails:Nat) (ht:tails≤3) (hf:0≤f) (last:Int) (hl:last≤l):∀n c,f≤c→(last+1-c).toNat=n→∀p∈segs c last tails,c≤p.1∧p.2≤last∧∃t,Good f l tails t p.1 p.2:=by
 intro n
 induction n using Nat.strongRecOn with
 | _ n ih=>
  intro c hc hn p hp
  rw [segs_step c last tails ht (by omega)] at hp
  split at hp
  ·rename_i h
   obtain ⟨hg,he⟩:=endOf_good c last f l tails ht (by omega) hc h hl
   have:=hg.le
   rcases List.mem_cons.1 hp with rfl | hp
   ·exact ⟨Int.le_refl _,he,_,hg⟩
   ·obtain ⟨h1,h2⟩:=ih _ (by omega) (endOf c last tails+1) (by omega) rfl p hp
    exact ⟨by omega,h2⟩
  ·cases hp
end Sp
namespace Sp
open Go.Lib
def cnt (r:List (Int × Int)):Int:=r.foldl (fun n x=>n*(x.2-x.1+1)) 1
def fitsZ:List (Int × Int)→List Int→Bool
 | [],[]=>true
 | r :: rs,c :: cs=>decide (r.1≤c∧c≤r.2)&&fitsZ rs cs
 | _,_=>false
theorem digits (x:Int) (_h0:0≤x) (_h1:x≤1114111):∃x3 x2 x1 x0:Int,x=x3*262144+x2*4096+x1*64+x0∧0≤x0∧x0<64∧0≤x1∧x1<64∧0≤x2∧x2<64∧0≤x3∧x3≤4 ∧
  x/262144=x3∧x/4096%64=x2∧x/64%64=x1∧x%64=x0∧x/4096=x3*64+x2∧x/64=x3*4096+x2*64+x1:=by
 refine ⟨x/262144,x/4096%64,x/64%64,x%64,?_⟩
 omega
inductive InCut:Int→Int→Nat→Prop
 | c0:InCut 0 127 0
 | c1:InCut 128 2047 1
 | c2:InCut 2048 55295 2
 | c3:InCut 57344 65535 2
 | c4:InCut 65536 1114111 3
theorem inCut_of {k:Int × Int × Nat} (h:k∈cuts):InCut k.1 k.2.1 k.2.2:=by
 simp only [cuts,List.mem_cons,List.not_mem_nil,or_false] at h
 rcases h with rfl | rfl | rfl | rfl | rfl
 ·exact .c0
 ·exact .c1
 ·exact .c2
 ·exact .c3
 ·exact .c4
structure Row (tails:Nat) (a b:Int) (r:List (Int × Int)):Prop where
 cnt:cnt r=b-a+1
 len:r.length=tails+1
 rng:∀x∈r,0≤x.1∧x.1≤x.2∧x.2≤255
 fit:∀c,Ut.whole c=true→fitsZ r (encodeRuneZ c)=decide (a≤c∧c≤b)
theorem row0 (a b:Int) (h0:0≤a) (hb:b≤127) (hab:a≤b):Row 0 a b [(a,b)]:=by
 refine ⟨?_,rfl,?_,?_⟩
 ·show 1*(b-a+1)=_
  omega
 ·intro x hx
  obtain rfl:=List.mem_singleton.1 hx
  omega
 ·intro c hc
  rcases Ut.run_cases c hc with ⟨h1,h2,e⟩ | ⟨h1,h2,e⟩ | ⟨h1,e⟩ | ⟨h1,h2,e⟩ <;> rw [e]
  ·simp [fitsZ]
  ·simp [fitsZ];omega
  ·simp [fitsZ];omega
  ·simp [fitsZ];omega
theorem row1 (a b:Int) (h0:128≤a) (hb:b≤2047) (hab:a≤b) (h:(a/64=b/64)∨(a%64=0∧b%64=63)):Row 1 a b [(192+a/64,192+b/64),(128+a%64,128+b%64)]:=by
 refine ⟨?_,rfl,?_,?_⟩
 ·show 1*(192+b/64-(192+a/64)+1)*(128+b%64-(128+a%64)+1)=_
  rcases h with h | ⟨h1,h2⟩
  ·rw [h,show 1*(192+b/64-(192+b/64)+1)=1 by omega]
   omega
  ·rw [h1,h2]
   omega
 ·intro x hx
  simp only [List.mem_cons,List.not_mem_nil,or_false] at hx
  rcases hx with rfl | rfl
  ·dsimp only;omega
  ·dsimp only;omega
 ·intro c hc
  rcases Ut.run_cases c hc with ⟨h1,h2,e⟩ | ⟨h1,h2,e⟩ | ⟨h1,e⟩ | ⟨h1,h2,e⟩ <;> rw [e]
  ·simp [fitsZ];omega
  ·simp only [fitsZ,Bool.and_true,←Bool.decide_and]
   refine decide_eq_decide.2 ?_
   constructor
   ·rcases h with h | h <;> omega
   ·rcases h with h | h <;> omega
  ·simp [fitsZ];omega
  ·simp [fitsZ];omega
theorem row2 (a b:Int) (h0:(2048≤a∧b≤55295)∨(57344≤a∧b≤65535)) (hab:a≤b)
  (h:(a/64=b/64)∨(a/4096=b/4096∧a%64=0∧b%64=63)∨(a%64=0∧a/64%64=0∧b%64=63∧b/64%64=63)):
  Row 2 a b [(224+a/4096,224+b/4096),(128+a/64%64,128+b/64%64),(128+a%64,128+b%64)]:=by
 obtain ⟨a3,a2,a1,a0,ea,r0,r1,r2,r3,r4,r5,r6,r7,d3,d2,d1,d0,e2,e1⟩:=digits a (by omega) (by omega)
 obtain ⟨b3,b2,b1,b0,eb,s0,s1,s2,s3,s4,s5,s6,s7,f3,f2,f1,f0,g2,g1⟩:=digits b (by omega) (by omega)
 rw [d1,d0,f1,f0,e1,e2,g1,g2] at h
 refine ⟨?_,rfl,?_,?_⟩
 ·show 1*(224+b/4096-(224+a/4096)+1)*(128+b/64%64-(128+a/64%64)+1)*(128+b%64-(128+a%64)+1)=_
  rw [e2,g2,d1,f1,d0,f0]
  clear d3 d2 d1 d0 f3 f2 f1 f0 e2 e1 g2 g1
  rcases h with h | ⟨h1,h2,h3⟩ | ⟨h1,h2,h3,h4⟩
  ·obtain rfl:b3=a3:=by omega
   obtain rfl:b2=a2:=by omega
   obtain rfl:b1=a1:=by omega
   rw [show 1*(224+(b3*64+b2)-(224+(b3*64+b2))+1)=1 by omega,show 1*(128+b1-(128+b1)+1)=1 by omega]
   omega
  ·obtain rfl:b3=a3:=by omega
   obtain rfl:b2=a2:=by omega
   rw [show 1*(224+(b3*64+b2)-(224+(b3*64+b2))+1)=1 by omega,h2,h3]
   omega
  ·rw [h1,h2,h3,h4,show (128+(63:Int)-(128+0)+1)=64 by omega]
   omega
 ·intro x hx
  simp only [List.mem_cons,List.not_mem_nil,or_false] at hx
  rcases hx with rfl | rfl | rfl
  ·dsimp only;omega
  ·dsimp only;omega
  ·dsimp only;omega
 ·intro c hc
  rcases Ut.run_cases c hc with ⟨h1,h2,e⟩ | ⟨h1,h2,e⟩ | ⟨h1,e⟩ | ⟨h1,h2,e⟩ <;> rw [e]
  ·simp [fitsZ];omega
  ·simp [fitsZ];omega
  ·simp only [fitsZ,Bool.and_true,←Bool.decide_and]
   refine decide_eq_decide.2 ?_
   obtain ⟨c3,c2,c1,c0,ec,t0,t1,t2,t3,t4,t5,t6,t7,i3,i2,i1,i0,j2,j1⟩:=digits c (by omega) (by omega)
   rw [e2,g2,d1,f1,d0,f0,j2,i1,i0]
   clear d3 d2 d1 d0 f3 f2 f1 f0 e2 e1 g2 g1 i3 i2 i1 i0 j2 j1
   constructor
   ·rcases h with h | h | h <;> omega
   ·rcases h with h | h | h <;> omega
  ·simp [fitsZ];omega
theorem row3 (a b:Int) (h0:65536≤a) (hb:b≤1114111) (hab:a≤b)
  (h:(a/64=b/64)∨(a/4096=b/4096∧a%64=0∧b%64=63)∨(a/262144=b/262144∧a%64=0∧a/64%64=0∧b%64=63∧b/64%64=63) ∨
   (a%64=0∧a/64%64=0∧a/4096%64=0∧b%64=63∧b/64%64=63∧b/4096%64=63)):
  Row 3 a b [(240+a/262144,240+b/262144),(128+a/4096%64,128+b/4096%64),(128+a/64%64,128+b/64%64),(128+a%64,128+b%64)]:=by
 obtain ⟨a3,a2,a1,a0,ea,r0,r1,r2,r3,r4,r5,r6,r7,d3,d2,d1,d0,e2,e1⟩:=digits a (by omega) (by omega)
 obtain ⟨b3,b2,b1,b0,eb,s0,s1,s2,s3,s4,s5,s6,s7,f3,f2,f1,f0,g2,g1⟩:=digits b (by omega) (by omega)
 rw [d1,d0,f1,f0,e1,g1,d3,f3,d2,f2,e2,g2] at h
 refine ⟨?_,rfl,?_,?_⟩
 ·show 1*(240+b/262144-(240+a/262144)+1)*(128+b/4096%64-(128+a/4096%64)+1)*(128+b/64%64-(128+a/64%64)+1)*(128+b%64-(128+a%64)+1)=_
  rw [d3,f3,d2,f2,d1,f1,d0,f0]
  clear d3 d2 d1 d0 f3 f2 f1 f0 e2 e1 g2 g1
  rcases h with h | ⟨h1,h2,h3⟩ | ⟨h1,h2,h3,h4,h5⟩ | ⟨h1,h2,h3,h4,h5,h6⟩
  ·obtain rfl:b3=a3:=by omega
   obtain rfl:b2=a2:=by omega
   obtain rfl:b1=a1:=by omega
   rw [show 1*(240+b3-(240+b3)+1)=1 by omega,show 1*(128+b2-(128+b2)+1)=1 by omega,show 1*(128+b1-(128+b1)+1)=1 by omega]
   omega
  ·obtain rfl:b3=a3:=by omega
   obtain rfl:b2=a2:=by omega
   rw [show 1*(240+b3-(240+b3)+1)=1 by omega,show 1*(128+b2-(128+b2)+1)=1 by omega,h2,h3]
   omega
  ·obtain rfl:b3=a3:=by omega
   rw [show 1*(240+b3-(240+b3)+1)=1 by omega,h2,h3,h4,h5,show (128+(63:Int)-(128+0)+1)=64 by omega]
   omega
  ·rw [h1,h2,h3,h4,h5,h6,show (128+(63:Int)-(128+0)+1)=64 by omega]
   omega
 ·intro x hx
  simp only [List.mem_cons,List.not_mem_nil,or_false] at hx
  rcases hx with rfl | rfl | rfl | rfl
  ·dsimp only;omega
  ·dsimp only;omega
  ·dsimp only;omega
  ·dsimp only;omega
 ·intro c hc
  rcases Ut.run_cases c hc with ⟨h1,h2,e⟩ | ⟨h1,h2,e⟩ | ⟨h1,e⟩ | ⟨h1,h2,e⟩ <;> rw [e]
  ·simp [fitsZ];omega
  ·simp [fitsZ];omega
  ·simp [fitsZ];omega
  ·simp only [fitsZ,Bool.and_true,←Bool.decide_and]
   refine decide_eq_decide.2 ?_
   obtain ⟨c3,c2,c1,c0,ec,t0,t1,t2,t3,t4,t5,t6,t7,i3,i2,i1,i0,j2,j1⟩:=digits c (by omega) (by omega)
   rw [d3,f3,d2,f2,d1,f1,d0,f0,i3,i2,i1,i0]
   clear d3 d2 d1 d0 f3 f2 f1 f0 e2 e1 g2 g1 i3 i2 i1 i0 j2 j1
   constructor
   ·rcases h with h | h | h | h <;> omega
   ·rcases h with h | h | h | h <;> omega
theorem row_good {f l:Int} {tails t:Nat} {a b:Int} (hk:InCut f l tails) (h:Good f l tails t a b):Row tails a b (rowOf (a,b)):=by
 obtain ⟨tl,lo,hi,le,a0,b0,pre⟩:=h
 unfold rowOf
 have ht:t=0∨t=1∨t=2∨t=3:=by cases hk <;> omega
 cases hk
 ·rw [encodeRuneZ_one (by omega) (by omega),encodeRuneZ_one (by omega) (by omega)]
  exact row0 a b lo hi le
 ·rw [encodeRuneZ_two (by omega) (by omega),encodeRuneZ_two (by omega) (by omega)]
  refine row1 a b lo hi le ?_
  rcases ht with rfl | rfl | rfl | rfl
  ·simp only [pw0,Nat.zero_add,pw1] at *;omega
  ·simp only [pw1] at *;omega
  ·omega
  ·omega
 ·rw [encodeRuneZ_three (by omega),encodeRuneZ_three (by omega)]
  refine row2 a b (by omega) le ?_
  rcases ht with rfl | rfl | rfl | rfl
  ·simp only [pw0,Nat.zero_add,pw1] at *;omega
  ·simp only [Nat.reduceAdd,pw1,pw2] at *;omega
  ·simp only [pw2] at *;omega
  ·omega
 ·rw [encodeRuneZ_three (by omega),encodeRuneZ_three (by omega)]
  refine row2 a b (by omega) le ?_
  rcases ht with rfl | rfl | rfl | rfl
  ·simp only [pw0,Nat.zero_add,pw1] at *;omega
  ·simp only [Nat.reduceAdd,pw1,pw2] at *;omega
  ·simp only [pw2] at *;omega
  ·omega
 ·rw [encodeRuneZ_four (by omega) (by omega),encodeRuneZ_four (by omega) (by omega)]
  refine row3 a b lo hi le ?_
  rcases ht with rfl | rfl | rfl | rfl
  ·simp only [pw0,Nat.zero_add,pw1] at *;omega
  ·simp only [Nat.reduceAdd,pw1,pw2] at *;omega
  ·simp only [Nat.reduceAdd,pw2,pw3] at *;omega
  ·simp only [pw3] at *;omega
end Sp
namespace Sp
open Go.Lib
theorem cut_small {f l:Int} {tails:Nat} (h:InCut f l tails):tails≤3∧0≤f:=by cases h <;> omega
theorem pairs_all (lo hi:Int):∀p∈pairs lo hi,∃f l tails t,InCut f l tails∧Good f l tails t p.1 p.2∧lo≤p.1∧p.2≤hi:=by
 intro p hp
 obtain ⟨k,hk,hp⟩:=List.mem_flatMap.1 hp
 have hc:=inCut_of hk
 obtain ⟨h1,h2,t,hg⟩:=segs_all k.1 k.2.1 k.2.2 (cut_small hc).1 (cut_small hc).2 (min hi k.2.1) (by omega) _ (max lo k.1) (by omega) rfl p hp
 exact ⟨_,_,_,t,hc,hg,by omega,by omega⟩
theorem pw_cases (t s:Nat) (hs:s≤3) (ht:t≤s):pw t≤pw s∧∀x,x%pw s=0→x%pw t=0:=by
 have h:s=0∨s=1∨s=2∨s=3:=by omega
 have h2:t=0∨t=1∨t=2∨t=3:=by omega
 rcases h with rfl | rfl | rfl | rfl <;> rcases h2 with rfl | rfl | rfl | rfl <;> simp only [pw0,pw1,pw2,pw3] <;> first | omega | (constructor <;> (try intro x) <;> omega)
theorem pw_pos (t:Nat):1≤pw t:=by
 unfold pw
 have:(0:Int)<64 ^ t:=Int.pow_pos (by omega)
 omega
theorem turns_ge (c last:Int) (tails s:Nat) (hs:s≤tails) (ht:tails≤3) (h:c%pw s=0) (h2:c+(pw s-1)≤last):s≤turns c last tails 0:=by
 have h1:=turns_le c last tails 0
 have h3:=turns_no c last tails 0
 rcases Nat.lt_or_ge (turns c last tails 0) s with q | q
 ·exfalso
  obtain ⟨p1,p2⟩:=pw_cases (turns c last tails 0+1) s (by omega) (by omega)
  exact h3 (by omega) ⟨p2 c h,by omega⟩
 ·exact q
theorem segs_down (last:Int) (tails:Nat) (ht:tails≤3):∀s,s≤3→∀c,0≤c→c%pw s=0→last+1-c<pw s→(segs c last tails).length≤s:=by
 intro s
 induction s using Nat.strongRecOn with
 | _ s ih=>
  intro hs c h0 hc hl
  rw [segs_step c last tails ht h0]
  by_cases h:c≤last
  ·rw [if_pos h]
   obtain ⟨hg,he⟩:=endOf_good c last c last tails ht h0 (Int.le_refl _) h (Int.le_refl _)
   have hle:=hg.le
   have h1:=turns_le c last tails 0
   have h2:=turns_at c last tails 0 ⟨by rw [pw0];omega,by rw [pw0];omega⟩
   have h3:=turns_no c last tails 0
   have hts:turns c last tails 0<s:=by
    rcases Nat.lt_or_ge (turns c last tails 0) s with q | q
    ·exact q
    ·have:=(pw_cases s (turns c last tails 0) (by omega) q).1
     omega
   have hend:endOf c last tails=(last+1)-(last+1)%pw (turns c last tails 0)-1:=by
    unfold endOf
    dsimp only
    by_cases q:turns c last tails 0<tails
    ·rw [if_pos q]
     obtain ⟨p1,p2⟩:=pw_cases (turns c last tails 0+1) s hs (by omega)
     have e0:=p2 c hc
     have:=h3 (by omega)
     rw [e0] at this ⊢
     have:min last (c-0+(pw (turns c last tails 0+1)-1))=last:=by omega
     rw [this]
    ·rw [if_neg q]
   have hp:=pw_pos (turns c last tails 0)
   have hm:=Int.emod_nonneg (last+1) (show pw (turns c last tails 0)≠0 by omega)
   have hm2:=Int.emod_lt_of_pos (last+1) (show 0<pw (turns c last tails 0) by omega)
   have h5:=ih _ hts (by omega) (endOf c last tails+1) (by omega) hg.b0 (by omega)
   rw [List.length_cons]
   omega
  ·rw [if_neg h]
   exact Nat.zero_le _
theorem segs_up (last:Int) (tails:Nat) (ht:tails≤3):∀n s,s≤tails→tails-s=n→∀c,0≤c→c%pw s=0→(segs c last tails).length≤(tails+1-s)+tails:=by
 intro n
 induction n using Nat.strongRecOn with
 | _ n ih=>
  intro s hs hn c h0 hc
  by_cases hl:last+1-c<pw s
  ·have:=segs_down last tails ht s (by omega) c h0 hc hl
   omega
  ·have hge:=turns_ge c last tails s hs ht hc (by omega)
   rw [segs_step c last tails ht h0]
   have hpp:=pw_pos s
   have h:c≤last:=by omega
   rw [if_pos h]
   obtain ⟨hg,he⟩:=endOf_good c last c last tails ht h0 (Int.le_refl _) h (Int.le_refl _)
   have hle:=hg.le
   have h1:=turns_le c last tails 0
   have hp:=pw_pos (turns c last tails 0)
   have hm:=Int.emod_nonneg (last+1) (show pw (turns c last tails 0)≠0 by omega)
   have hm2:=Int.emod_lt_of_pos (last+1) (show 0<pw (turns c last tails 0) by omega)
   rw [List.length_cons]
   have down:endOf c last tails=(last+1)-(last+1)%pw (turns c last tails 0)-1→(segs (endOf c last tails+1) last tails).length≤turns c last tails 0:=fun e=>
    segs_down last tails ht _ (by omega) _ (by omega) hg.b0 (by omega)
   by_cases q:turns c last tails 0<tails
   ·by_cases q2:c-c%pw (turns c last tails 0+1)+(pw (turns c last tails 0+1)-1)≤last
    ·have e:endOf c last tails+1=c-c%pw (turns c last tails 0+1)+pw (turns c last tails 0+1):=by
      unfold endOf
      dsimp only
      rw [if_pos q,show min last (c-c%pw (turns c last tails 0+1)+(pw (turns c last tails 0+1)-1))=c-c%pw (turns c last tails 0+1)+(pw (turns c last tails 0+1)-1) by omega]
      have hz:(c-c%pw (turns c last tails 0+1)+(pw (turns c last tails 0+1)-1)+1)%pw (turns c last tails 0)=0:=by
       refine (pw_cases (turns c last tails 0) (turns c last tails 0+1) (by omega) (by omega)).2 _ ?_
       rw [show c-c%pw (turns c last tails 0+1)+(pw (turns c last tails 0+1)-1)+1=c-c%pw (turns c last tails 0+1)+pw (turns c last tails 0+1) by omega]
       rw [Int.add_emod_right,Int.sub_emod,Int.emod_emod,Int.sub_self,Int.zero_emod]
      rw [hz]
      omega
     have h5:=ih _ (by omega) (turns c last tails 0+1) (by omega) rfl (endOf c last tails+1) (by omega) (by
      rw [e,Int.add_emod_right,Int.sub_emod,Int.emod_emod,Int.sub_self,Int.zero_emod])
     omega
    ·have:=down (by
      unfold endOf
      dsimp only
      rw [if_pos q,show min last (c-c%pw (turns c last tails 0+1)+(pw (turns c last tails 0+1)-1))=last by omega])
     omega
   ·have:=down (by
     unfold endOf
     dsimp only
     rw [if_neg q])
    omega
theorem segs_few (c last:Int) (tails:Nat) (ht:tails≤3) (h0:0≤c):(segs c last tails).length≤2*tails+1:=by
 have:=segs_up last tails ht _ 0 (by omega) rfl c h0 (by rw [pw0];omega)
 omega
theorem segs_none (c last:Int) (tails:Nat) (ht:tails≤3) (h0:0≤c) (h:last<c):(segs c last tails).length=0:=by
 rw [segs_step c last tails ht h0,if_neg (by omega)]
 rfl
theorem rows_few (lo hi:Int):(rows lo hi).length≤20:=by
 unfold rows pairs
 rw [List.length_map,List.length_flatMap]
 simp only [cuts,List.map_cons,List.map_nil,List.sum_cons,List.sum_nil]
 have one:∀(f l:Int) (t n:Nat),t≤3→0≤f→(segs f l t).length=n→(segs (max lo f) (min hi l) t).length≤2*t+1∧(lo≤f∧l≤hi→(segs (max lo f) (min hi l) t).length=n)∧(hi<f∨l<lo→(segs (max lo f) (min hi l) t).length=0∨l<f):=by
  intro f l t n ht hf hn
  refine ⟨segs_few _ _ _ ht (by omega),fun h=>?_,fun h=>?_⟩
  ·rw [show max lo f=f by omega,show min hi l=l by omega,hn]
  ·by_cases q:l<f
   ·exact .inr q
   ·exact .inl (segs_none _ _ _ ht (by omega) (by omega))
 have a0:=one 0 127 0 1 (by omega) (by omega) (by decide +kernel)
 have a1:=one 128 2047 1 1 (by omega) (by omega) (by decide +kernel)
 have a2:=one 2048 55295 2 3 (by omega) (by omega) (by decide +kernel)
 have a3:=one 57344 65535 2 1 (by omega) (by omega) (by decide +kernel)
 have a4:=one 65536 1114111 3 3 (by omega) (by omega) (by decide +kernel)
 omega
end Sp
namespace Sp
open Go.Lib
open Au (Arc Lo)
def addArc (n:List Lo) (p:Nat) (a:Arc):List Lo:=n.modify p fun s=>⟨s.fin,s.arcs++[a],s.free⟩
def leadBy (to_:Nat):List Lo→Nat→List (Int × Int)→List Lo
 | n,_,[]=>n
 | n,p,[r]=>addArc n p ⟨r.1,r.2,to_⟩
 | n,p,r :: r' :: rs=>leadBy to_ (addArc (n++[⟨false,[],[]⟩]) p ⟨r.1,r.2,n.length⟩) n.length (r' :: rs)
def lead (n:List Lo) (p q:Nat) (R:List (List (Int × Int))):List Lo:=R.foldl (fun n row=>leadBy q n p row) n
def chainL (to_:Nat):Nat→List (Int × Int)→List Lo
 | _,[]=>[]
 | k,r :: rs=>⟨false,[⟨r.1,r.2,if rs=[] then (to_:Int) else ((k+1:Nat):Int)⟩],[]⟩ :: chainL to_ (k+1) rs
theorem chainL_length (to_:Nat):∀k rs,(chainL to_ k rs).length=rs.length
 | _,[]=>rfl
 | k,_ :: rs=>by simp [chainL,chainL_length to_ (k+1) rs]
theorem chainL_at (to_:Nat):∀k (rs:List (Int × Int)) j (h:j<rs.length),(chainL to_ k rs)[j]?=some ⟨false,[⟨rs[j].1,rs[j].2,if j+1=rs.length then (to_:Int) else ((k+j+1:Nat):Int)⟩],[]⟩
 | k,r :: rs,0,_=>by
  have e:(rs=[])↔(0+1=(r :: rs).length):=by cases rs <;> simp
  simp only [chainL,List.getElem?_cons_zero,List.getElem_cons_zero]
  by_cases h:rs=[]
  ·rw [if_pos h,if_pos (e.1 h)]
  ·rw [if_neg h,if_neg (fun q=>h (e.2 q))]
 | k,r :: rs,j+1,h=>by
  have h':j<rs.length:=by simpa using h
  have:=chainL_at to_ (k+1) rs j h'
  simp only [chainL,List.getElem?_cons_succ,List.getElem_cons_succ,List.length_cons]
  rw [this]
  simp only [Nat.add_right_cancel_iff]
  by_cases q:j+1=rs.length
  ·rw [if_pos q,if_pos q]
  ·rw [if_neg q,if_neg q,show k+1+j+1=k+(j+1)+1 by omega]
theorem addArc_length (n:List Lo) (p:Nat) (a:Arc):(addArc n p a).length=n.length:=by simp [addArc]
theorem addArc_at (n:List Lo) (p:Nat) (a:Arc) (i:Nat):(addArc n p a)[i]?=(n[i]?).map fun s=>if p=i then ⟨s.fin,s.arcs++[a],s.free⟩ else s:=by
 unfold addArc
 rw [List.getElem?_modify]
 by_cases h:p=i
 ·simp [h]
 ·simp [h]
theorem addArc_append (n r:List Lo) (p:Nat) (a:Arc) (h:p<n.length):addArc (n++r) p a=addArc n p a++r:=by
 apply List.ext_getElem?
 intro i
 rw [addArc_at]
 by_cases hi:i<n.length
 ·rw [List.getElem?_append_left hi,List.getElem?_append_left (by rw [addArc_length];exact hi),addArc_at]
 ·rw [List.getElem?_append_right (by omega),List.getElem?_append_right (by rw [addArc_length];omega),addArc_length]
  have:p≠i:=by omega
  simp [this]
theorem addArc_last (n:List Lo) (s:Lo) (p:Nat) (a:Arc) (h:p=n.length):addArc (n++[s]) p a=n++[⟨s.fin,s.arcs++[a],s.free⟩]:=by
 subst h
 apply List.ext_getElem?
 intro i
 rw [addArc_at]
 by_cases hi:i<n.length
 ·have:n.length≠i:=by omega
  rw [List.getElem?_append_left hi,List.getElem?_append_left hi]
  simp [this]
 ·rw [List.getElem?_append_right (by omega),List.getElem?_append_right (by omega)]
  by_cases e:i=n.length
  ·subst e;simp
  ·rw [List.getElem?_eq_none (by simp;omega),List.getElem?_eq_none (by simp;omega)]
   rfl
theorem leadBy_form (to_:Nat):∀(rs:List (Int × Int)) (r:Int × Int) (n:List Lo) (p:Nat),p<n.length →
  leadBy to_ n p (r :: rs)=addArc n p ⟨r.1,r.2,if rs=[] then (to_:Int) else (n.length:Int)⟩++chainL to_ n.length rs
 | [],r,n,p,_=>by simp [leadBy,chainL]
 | r' :: rs,r,n,p,h=>by
  show leadBy to_ (addArc (n++[⟨false,[],[]⟩]) p ⟨r.1,r.2,n.length⟩) n.length (r' :: rs)=_
  have hl:(addArc (n++[(⟨false,[],[]⟩:Lo)]) p ⟨r.1,r.2,n.length⟩).length=n.length+1:=by rw [addArc_length];simp
  rw [leadBy_form to_ rs r' _ n.length (by omega),hl,addArc_append n _ p _ h,addArc_last _ _ _ _ (by rw [addArc_length])]
  rw [if_neg (show ¬(r' :: rs=[]) by simp)]
  simp only [chainL,List.nil_append,List.append_assoc,List.singleton_append]
theorem leadBy_length (to_:Nat) (n:List Lo) (p:Nat) (row:List (Int × Int)) (h:p<n.length):(leadBy to_ n p row).length=n.length+(row.length-1):=by
 cases row with
 | nil=>simp [leadBy]
 | cons r rs=>rw [leadBy_form to_ rs r n p h,List.length_append,addArc_length,chainL_length];simp
theorem lead_snoc (n:List Lo) (p q:Nat) (R:List (List (Int × Int))) (row:List (Int × Int)):lead n p q (R++[row])=leadBy q (lead n p q R) p row:=by
 unfold lead
 rw [List.foldl_append]
 rfl
end Sp
namespace Sp
open Go.Lib
open Au (Arc Lo Star May has)
inductive Path (n:List Lo):List Nat→Nat→Prop
 | nil {k:Nat}:Star n 0 k→Path n [] k
 | snoc {w:List Nat} {k l c:Nat} {s:Lo} {a:Arc}:Path n w k→n[k]?=some s→a∈s.arcs→a.lo≤(c:Int)→(c:Int)≤a.hi→Star n a.to.toNat l→Path n (w++[c]) l
theorem star_lt {n:List Lo} (hM:May n) {i j:Nat} (h:Star n i j) (hi:i<n.length):j<n.length:=by
 induction h with
 | refl=>exact hi
 | step _ h1 h2 _=>
  obtain ⟨hl,rfl⟩:=List.getElem?_eq_some_iff.1 h1
  have:=hM.free _ hl _ h2
  omega
theorem path_snoc {n:List Lo} {w:List Nat} {c l:Nat}:Path n (w++[c]) l↔∃k s a,Path n w k∧n[k]?=some s∧a∈s.arcs∧a.lo≤(c:Int)∧(c:Int)≤a.hi∧Star n a.to.toNat l:=by
 constructor
 ·intro h
  generalize hw:w++[c]=v at h
  cases h with
  | nil _=>simp at hw
  | snoc h1 h2 h3 h4 h5 h6=>
   obtain ⟨rfl,e⟩:=List.append_inj' hw rfl
   obtain rfl:=List.singleton_inj.1 e
   exact ⟨_,_,_,h1,h2,h3,h4,h5,h6⟩
 ·rintro ⟨k,s,a,h1,h2,h3,h4,h5,h6⟩
  exact .snoc h1 h2 h3 h4 h5 h6
theorem path_nil {n:List Lo} {l:Nat}:Path n [] l↔Star n 0 l:=by
 constructor
 ·intro h
  generalize hw:([]:List Nat)=v at h
  cases h with
  | nil h=>exact h
  | snoc=>simp at hw
 ·exact .nil
theorem has_path {n:List Lo} (hM:May n):∀(m:Nat) (w:List Nat),w.length=m→∀k,has (w.foldl (Au.over n) (Au.first n)) k↔Path n w k
 | 0,w,hw,k=>by
  obtain rfl:=List.length_eq_zero_iff.1 hw
  rw [path_nil,List.foldl_nil]
  unfold Au.first Au.spread
  rw [Au.has_setOf]
  constructor
  ·rintro ⟨_,j,hj,hs⟩
   obtain ⟨_,rfl⟩:=(Au.has_setOf _ _ _).1 hj
   exact hs
  ·intro hs
   exact ⟨star_lt hM hs hM.pos,0,(Au.has_setOf _ _ _).2 ⟨hM.pos,rfl⟩,hs⟩
 | m+1,w,hw,k=>by
  obtain ⟨v,c,rfl⟩:∃v c,w=v++[c]:=⟨w.dropLast,w.getLast (by intro e;rw [e] at hw;simp at hw),(List.dropLast_concat_getLast _).symm⟩
  have ih:=has_path hM m v (by simpa using hw)
  rw [path_snoc,List.foldl_append]
  show has (Au.over n (v.foldl (Au.over n) (Au.first n)) c) k↔_
  unfold Au.over Au.spread
  rw [Au.has_setOf]
  constructor
  ·rintro ⟨_,j,hj,hs⟩
   obtain ⟨_,k',s,a,h1,h2,h3,h4,h5,rfl⟩:=(Au.has_setOf _ _ _).1 hj
   exact ⟨k',s,a,(ih k').1 h1,h2,h3,h4,h5,hs⟩
  ·rintro ⟨k',s,a,h1,h2,h3,h4,h5,h6⟩
   obtain ⟨hl,rfl⟩:=List.getElem?_eq_some_iff.1 h2
   have hto:=hM.arc _ hl a h3
   have hlt:a.to.toNat<n.length:=by omega
   exact ⟨star_lt hM h6 hlt,a.to.toNat,(Au.has_setOf _ _ _).2 ⟨hlt,k',n[k'],a,(ih k').2 h1,h2,h3,h4,h5,rfl⟩,h6⟩
section
variable {n0 n:List Lo} {E:List Edge} {st:Nat→Nat→Nat}
end
end Sp
namespace Sp
open Go.Lib
open Au (Arc Lo Star May has)
def cls (b:Nat):Nat:=if b≤127 then 1 else if b≤191 then 0 else if b≤223 then 2 else if b≤239 then 3 else if b≤247 then 4 else 0
structure Shape (row:List (Int × Int)):Prop where
 pos:0<row.length
 len:row.length≤4
 rng:∀r∈row,0≤r.1∧r.1≤r.2∧r.2≤255
 head:∀r,row[0]?=some r→∀b:Nat,r.1≤(b:Int)→(b:Int)≤r.2→cls b=row.length
 tail:∀i r,row[i+1]?=some r→128≤r.1∧r.2≤191
theorem shape_good {f l:Int} {tails t:Nat} {a b:Int} (hk:InCut f l tails) (h:Good f l tails t a b):Shape (rowOf (a,b))∧(rowOf (a,b)).length=tails+1:=by
 have hrow:=row_good hk h
 have h1:=h.lo
 have h2:=h.hi
 have h3:=h.le
 have hlen:=hrow.len
 refine ⟨⟨by omega,by have:=(cut_small hk).1;omega,hrow.rng,?_,?_⟩,hlen⟩
 ·intro r hr c hc1 hc2
  rw [hlen]
  unfold rowOf at hr
  unfold cls
  cases hk
  ·rw [encodeRuneZ_one (by omega) (by omega),encodeRuneZ_one (by omega) (by omega)] at hr
   simp at hr
   subst hr
   dsimp only at hc1 hc2
   rw [if_pos (by omega)]
  ·rw [encodeRuneZ_two (by omega) (by omega),encodeRuneZ_two (by omega) (by omega)] at hr
   simp at hr
   subst hr
   dsimp only at hc1 hc2
   rw [if_neg (by omega),if_neg (by omega),if_pos (by omega)]
  ·rw [encodeRuneZ_three (by omega),encodeRuneZ_three (by omega)] at hr
   simp at hr
   subst hr
   dsimp only at hc1 hc2
   rw [if_neg (by omega),if_neg (by omega),if_neg (by omega),if_pos (by omega)]
  ·rw [encodeRuneZ_three (by omega),encodeRuneZ_three (by omega)] at hr
   simp at hr
   subst hr
   dsimp only at hc1 hc2
   rw [if_neg (by omega),if_neg (by omega),if_neg (by omega),if_pos (by omega)]
  ·rw [encodeRuneZ_four (by omega) (by omega),encodeRuneZ_four (by omega) (by omega)] at hr
   simp at hr
   subst hr
   dsimp only at hc1 hc2
   rw [if_neg (by omega),if_neg (by omega),if_neg (by omega),if_neg (by omega),if_pos (by omega)]
 ·intro i r hr
  have hi:i+1<tails+1:=by rw [←hlen];exact (List.getElem?_eq_some_iff.1 hr).1
  unfold rowOf at hr
  cases hk
  ·omega
  ·rw [encodeRuneZ_two (by omega) (by omega),encodeRuneZ_two (by omega) (by omega)] at hr
   obtain rfl:i=0:=by omega
   simp at hr
   subst hr
   dsimp only
   omega
  ·rw [encodeRuneZ_three (by omega),encodeRuneZ_three (by omega)] at hr
   have hi2:i=0∨i=1:=by omega
   rcases hi2 with rfl | rfl <;> (simp at hr;subst hr;dsimp only;omega)
  ·rw [encodeRuneZ_three (by omega),encodeRuneZ_three (by omega)] at hr
   have hi2:i=0∨i=1:=by omega
   rcases hi2 with rfl | rfl <;> (simp at hr;subst hr;dsimp only;omega)
  ·rw [encodeRuneZ_four (by omega) (by omega),encodeRuneZ_four (by omega) (by omega)] at hr
   have hi2:i=0∨i=1∨i=2:=by omega
   rcases hi2 with rfl | rfl | rfl <;> (simp at hr;subst hr;dsimp only;omega)
theorem rows_shape {lo hi:Int} {row:List (Int × Int)} (h:row∈rows lo hi):Shape row:=by
 obtain ⟨p,hp,rfl⟩:=List.mem_map.1 h
 obtain ⟨f,l,tails,t,hc,hg,_⟩:=pairs_all lo hi p hp
 exact (shape_good hc hg).1
end Sp
namespace Sp
open Go.Lib
open Au (Arc Lo Star May has)
theorem takes_path {n:List Lo} (hM:May n) (w:List Nat):Au.takes n (Au.first n) w=true↔∃k s,Path n w k∧n[k]?=some s∧s.fin=true:=by
 unfold Au.takes
 rw [Au.ends_iff]
 constructor
 ·rintro ⟨k,s,h1,h2,h3⟩
  exact ⟨k,s,(has_path hM _ w rfl k).1 h1,h2,h3⟩
 ·rintro ⟨k,s,h1,h2,h3⟩
  exact ⟨k,s,(has_path hM _ w rfl k).2 h1,h2,h3⟩
theorem path_sets {n:List Lo} (hM:May n) (w:List Nat):w.foldl (Au.over n) (Au.first n)=Au.setOf n.length (Path n w):=by
 have hl:(w.foldl (Au.over n) (Au.first n)).length=n.length:=by
  rcases List.eq_nil_or_concat w with rfl | ⟨v,c,rfl⟩
  ·exact Au.first_length n
  ·rw [List.concat_eq_append,List.foldl_append]
   exact Au.over_length n _ c
 refine Au.set_ext (by rw [hl,Au.setOf_length]) fun i=>?_
 rw [has_path hM _ w rfl,Au.has_setOf]
 constructor
 ·intro h
  have h2:=(has_path hM _ w rfl i).2 h
  exact ⟨by rw [←hl];exact (List.getElem?_eq_some_iff.1 h2).1,h⟩
 ·exact fun h=>h.2
theorem few_of_code {n:List Lo} (hM:May n) (N:Nat) (code:List Nat→Nat) (hc:∀w,code w<N) (hi:∀w w',code w=code w'→∀k,Path n w k↔Path n w' k) (most:Int) (hN:(N:Int)≤most):∃i,Au.Few n most i:=by
 classical
 let P:List Bool→Prop:=fun S=>∃w,S=Au.setOf n.length (Path n w)
 let f:List Bool→Nat:=fun S=>if h:P S then code (Classical.choose h) else 0
 have hb:∀i,((Au.sub n).plain.met (Au.first n) i).length≤N:=fun i=>by
  refine Au.met_few (Au.sub n).plain (fun s=>decide_eq_true rfl) f N P (fun S c T hS hg=>?_) (Au.first n) ⟨[],(path_sets hM [])⟩ (fun S hS=>?_) (fun S T hS hT e=>?_) i
  ·obtain ⟨w,rfl⟩:=hS
   change (if _ then _ else _)=_ at hg
   split at hg
   ·cases hg
   ·cases hg
    refine ⟨w++[c],?_⟩
    rw [←path_sets hM,←path_sets hM,List.foldl_append]
    rfl
  ·show (if h:P S then _ else _)<N
   rw [dif_pos hS]
   exact hc _
  ·change (if h:P S then _ else _)=(if h:P T then _ else _) at e
   rw [dif_pos hS,dif_pos hT] at e
   have hp:=hi _ _ e
   have e1:=Classical.choose_spec hS
   have e2:=Classical.choose_spec hT
   rw [e1,e2]
   refine Au.set_ext (by rw [Au.setOf_length,Au.setOf_length]) fun k=>?_
   rw [Au.has_setOf,Au.has_setOf,hp k]
 exact ⟨N,hb N,by have:=hb N;omega⟩
section
variable {n0 n:List Lo} {E:List Edge} {st:Nat→Nat→Nat} {R:List (List (Int × Int))}
end
section
variable {old:Lo} {R:List (List (Int × Int))}
end
end Sp
namespace Sp
open Go.Lib
open Au (Arc Lo Star May has)
theorem rows_full:rows 0 1114111=[[(0,127)],[(194,223),(128,191)],[(224,224),(160,191),(128,191)],[(225,236),(128,191),(128,191)],[(237,237),(128,159),(128,191)],[(238,239),(128,191),(128,191)],[(240,240),(144,191),(128,191),(128,191)],[(241,243),(128,191),(128,191),(128,191)],[(244,244),(128,143),(128,191),(128,191)]]:=by
 decide +kernel
theorem segs_far (c f l:Int) (t:Nat) (ht:t≤3) (hf:0≤f) (h:c<f∨l<c):segs (max c f) (min c l) t=[]:=by
 rw [segs_step _ _ _ ht (by omega),if_neg (by omega)]
theorem segs_near (c f l:Int) (t:Nat) (ht:t≤3) (hf:0≤f) (h1:f≤c) (h2:c≤l):∃p,segs (max c f) (min c l) t=[p]:=by
 have e1:max c f=c:=by omega
 have e2:min c l=c:=by omega
 rw [e1,e2,segs_step _ _ _ ht (by omega),if_pos (Int.le_refl _)]
 obtain ⟨hg,he⟩:=endOf_good c c c c t ht (by omega) (Int.le_refl _) (Int.le_refl _) (Int.le_refl _)
 have:=hg.le
 rw [segs_step _ _ _ ht (by omega),if_neg (by omega)]
 exact ⟨_,rfl⟩
theorem rows_single (c:Int):(rows c c).length≤1:=by
 have e:(rows c c).length=(segs (max c 0) (min c 127) 0).length+((segs (max c 128) (min c 2047) 1).length+((segs (max c 2048) (min c 55295) 2).length+((segs (max c 57344) (min c 65535) 2).length+(segs (max c 65536) (min c 1114111) 3).length))):=by
  simp [rows,pairs,cuts]
 rw [e]
 have key:∀(f l:Int) (t:Nat),t≤3→0≤f→((c<f∨l<c)∧(segs (max c f) (min c l) t).length=0)∨((f≤c∧c≤l)∧(segs (max c f) (min c l) t).length=1):=fun f l t ht hf=>by
  by_cases h:c<f∨l<c
  ·exact .inl ⟨h,by rw [segs_far c f l t ht hf h];rfl⟩
  ·obtain ⟨p,hp⟩:=segs_near c f l t ht hf (by omega) (by omega)
   exact .inr ⟨by omega,by rw [hp];rfl⟩
 have k1:=key 0 127 0 (by decide) (by decide)
 have k2:=key 128 2047 1 (by decide) (by decide)
 have k3:=key 2048 55295 2 (by decide) (by decide)
 have k4:=key 57344 65535 2 (by decide) (by decide)
 have k5:=key 65536 1114111 3 (by decide) (by decide)
 omega
end Sp
namespace Wl
open Go.Lib
open Au (Arc Lo Star May has)
open Sp (rows lead Path Shape)
def rng (c:Int):Int × Int:=if c=63 then (0,1114111) else (c,c)
def nots (l:List Int):Nat:=(l.filter fun c=>decide (c≠42)).length
theorem nots_cons (c:Int) (l:List Int):nots (c :: l)=(if c=42 then 0 else 1)+nots l:=by
 unfold nots
 by_cases h:c=42
 ·simp [h]
 ·simp [h];omega
theorem nots_append (a b:List Int):nots (a++b)=nots a+nots b:=by simp [nots]
theorem nots_le (l:List Int):nots l≤l.length:=List.length_filter_le _ _
def stepA (s:Nat × Bool × List Lo) (c:Int):Nat × Bool × List Lo:=
 if c=42 then (s.1,true,if s.2.1=true then s.2.2 else lead s.2.2 s.1 s.1 (rows 0 1114111)) else (s.1+1,false,lead s.2.2 s.1 (s.1+1) (rows (rng c).1 (rng c).2))
theorem stepA_star (s:Nat × Bool × List Lo):stepA s 42=(s.1,true,if s.2.1=true then s.2.2 else lead s.2.2 s.1 s.1 (rows 0 1114111)):=if_pos rfl
def blank (m:Nat):List Lo:=List.replicate m ⟨false,[],[]⟩
def runA (m:Nat) (xs:List Int):Nat × Bool × List Lo:=xs.foldl stepA (0,false,blank m)
def setF (n:List Lo) (k:Nat):List Lo:=n.modify k fun s=>⟨true,s.arcs,s.free⟩
def auto (xs:List Int):List Lo:=setF (runA (nots xs+1) xs).2.2 (nots xs)
theorem runA_at (m:Nat) (xs:List Int):(runA m xs).1=nots xs:=by
 have key:∀(xs:List Int) (s:Nat × Bool × List Lo),(xs.foldl stepA s).1=s.1+nots xs:=by
  intro xs
  induction xs with
  | nil=>intro s;rfl
  | cons c r ih=>
   intro s
   rw [List.foldl_cons,ih,nots_cons]
   unfold stepA
   by_cases h:c=42
   ·rw [if_pos h,if_pos h];simp
   ·rw [if_neg h,if_neg h];show s.1+1+_=_;omega
 have:=key xs (0,false,blank m)
 rw [Nat.zero_add] at this
 exact this
theorem runA_last (m:Nat) (xs:List Int):(runA m xs).2.1=decide (xs.getLast?=some 42):=by
 rcases List.eq_nil_or_concat xs with rfl | ⟨l,c,rfl⟩
 ·rfl
 ·rw [List.concat_eq_append]
  unfold runA
  rw [List.foldl_append,List.getLast?_append]
  show (stepA _ c).2.1=_
  unfold stepA
  by_cases h:c=42
  ·rw [if_pos h];simp [h]
  ·rw [if_neg h];simp [h]
theorem runA_step (m:Nat) (xs:List Int) (k:Nat) (h:k<xs.length):runA m (xs.take (k+1))=stepA (runA m (xs.take k)) xs[k]:=by
 rw [List.take_succ_eq_append_getElem h]
 unfold runA
 rw [List.foldl_append]
 rfl
theorem rows_nine (c:Int):(rows (rng c).1 (rng c).2).length≤9:=by
 unfold rng
 split
 ·show (rows 0 1114111).length≤9
  rw [Sp.rows_full]
  decide
 ·have:=Sp.rows_single c
  show (rows c c).length≤9
  omega
end Wl
namespace Wl
open Go.Lib
open Au (Arc Lo Star May has)
open Sp (rows lead Path Shape)
theorem setF_at (n:List Lo) (k i:Nat):(setF n k)[i]?=(n[i]?).map fun s=>if k=i then ⟨true,s.arcs,s.free⟩ else s:=by
 unfold setF
 rw [List.getElem?_modify]
 cases n[i]? <;> simp
theorem setF_length (n:List Lo) (k:Nat):(setF n k).length=n.length:=List.length_modify _ _ _
end Wl
namespace Sp
theorem nat_or_mask (x k:Nat):x ||| (2 ^ k-1)=x-x%2 ^ k+(2 ^ k-1):=by
 have hp:0<2 ^ k:=Nat.two_pow_pos k
 have hm:x%2 ^ k<2 ^ k:=Nat.mod_lt _ hp
 have hd:2 ^ k*(x/2 ^ k)+x%2 ^ k=x:=Nat.div_add_mod x (2 ^ k)
 have e1:x-x%2 ^ k+(2 ^ k-1)=2 ^ k*(x/2 ^ k)+(2 ^ k-1):=by omega
 rw [e1]
 apply Nat.eq_of_testBit_eq
 intro i
 rw [Nat.testBit_two_pow_mul_add _ (by omega),Nat.testBit_or,Nat.testBit_two_pow_sub_one]
 by_cases h:i<k
 ·simp [h]
 ·simp only [h,decide_false,Bool.or_false,if_false]
  rw [Nat.testBit_div_two_pow,Nat.sub_add_cancel (by omega)]
theorem nat_clear (x k:Nat) (hx:x<2 ^ 64) (_hk:k≤64):x &&& (2 ^ 64-1-(2 ^ k-1))=x-x%2 ^ k:=by
 have hp:0<2 ^ k:=Nat.two_pow_pos k
 have hd:2 ^ k*(x/2 ^ k)+x%2 ^ k=x:=Nat.div_add_mod x (2 ^ k)
 have hk2:2 ^ k≤2 ^ 64:=Nat.pow_le_pow_right (by omega) _hk
 have e1:x-x%2 ^ k=2 ^ k*(x/2 ^ k)+0:=by omega
 rw [e1]
 apply Nat.eq_of_testBit_eq
 intro i
 have e2:2 ^ 64-1-(2 ^ k-1)=2 ^ 64-((2 ^ k-1)+1):=by omega
 rw [Nat.testBit_two_pow_mul_add _ (by omega),Nat.testBit_and,e2,Nat.testBit_two_pow_sub_succ (by omega),Nat.testBit_two_pow_sub_one,Nat.zero_testBit]
 by_cases h:i<k
 ·simp [h]
 ·simp only [h,decide_false,Bool.not_false,Bool.and_true,if_false]
  rw [Nat.testBit_div_two_pow,Nat.sub_add_cancel (by omega)]
  by_cases h6:i<64
  ·simp [h6]
  ·have:x.testBit i=false:=Nat.testBit_lt_two_pow (Nat.lt_of_lt_of_le hx (Nat.pow_le_pow_right (by omega) (by omega)))
   simp [this]
theorem wrap_small (n:Nat) (h:n<9223372036854775808):IntKind.i64.wrap (n:Int)=(n:Int):=by
 rw [IntKind.wrap_i64]
 omega
theorem ofInt_nat (n:Nat) (h:n<2 ^ 64):(BitVec.ofInt 64 (n:Int)).toNat=n:=by
 rw [BitVec.ofInt_natCast,BitVec.toNat_ofNat]
 exact Nat.mod_eq_of_lt h
theorem and_nat (x k:Nat) (hx:x<2 ^ 40) (hk:k≤40):bits .and .i64 (x:Int) ((2 ^ k-1:Nat):Int)=((x%2 ^ k:Nat):Int):=by
 have hk2:2 ^ k≤2 ^ 40:=Nat.pow_le_pow_right (by omega) hk
 show IntKind.i64.wrap ((BitVec.ofInt 64 (x:Int) &&& BitVec.ofInt 64 ((2 ^ k-1:Nat):Int)).toNat:Int)=_
 rw [BitVec.toNat_and,ofInt_nat x (by omega),ofInt_nat _ (by omega),Nat.and_two_pow_sub_one_eq_mod]
 exact wrap_small _ (Nat.lt_of_le_of_lt (Nat.mod_le _ _) (by omega))
theorem or_nat (x k:Nat) (hx:x<2 ^ 40) (hk:k≤40):bits .or .i64 (x:Int) ((2 ^ k-1:Nat):Int)=((x-x%2 ^ k+(2 ^ k-1):Nat):Int):=by
 have hk2:2 ^ k≤2 ^ 40:=Nat.pow_le_pow_right (by omega) hk
 show IntKind.i64.wrap ((BitVec.ofInt 64 (x:Int) ||| BitVec.ofInt 64 ((2 ^ k-1:Nat):Int)).toNat:Int)=_
 rw [BitVec.toNat_or,ofInt_nat x (by omega),ofInt_nat _ (by omega),nat_or_mask]
 exact wrap_small _ (by omega)
theorem clear_nat (x k:Nat) (hx:x<2 ^ 40) (hk:k≤40):bits .andNot .i64 (x:Int) ((2 ^ k-1:Nat):Int)=((x-x%2 ^ k:Nat):Int):=by
 have hk2:2 ^ k≤2 ^ 40:=Nat.pow_le_pow_right (by omega) hk
 show IntKind.i64.wrap ((BitVec.ofInt 64 (x:Int) &&& ~~~ BitVec.ofInt 64 ((2 ^ k-1:Nat):Int)).toNat:Int)=_
 rw [BitVec.toNat_and,BitVec.toNat_not,ofInt_nat x (by omega),ofInt_nat _ (by omega),nat_clear x k (by omega) (by omega)]
 exact wrap_small _ (by omega)
theorem and_int (x:Int) (k m:Nat) (hm:m=2 ^ k) (h0:0≤x) (h1:x<1099511627776) (hk:k≤40):bits .and .i64 x ((m:Int)-1)=x%m:=by
 obtain ⟨n,rfl⟩:∃n:Nat,x=n:=⟨x.toNat,by omega⟩
 have hp:0<2 ^ k:=Nat.two_pow_pos k
 have:=and_nat n k (by omega) hk
 rw [show ((m:Int)-1)=((2 ^ k-1:Nat):Int) by omega,this,hm]
 simp
theorem or_int (x:Int) (k m:Nat) (hm:m=2 ^ k) (h0:0≤x) (h1:x<1099511627776) (hk:k≤40):bits .or .i64 x ((m:Int)-1)=x-x%m+((m:Int)-1):=by
 obtain ⟨n,rfl⟩:∃n:Nat,x=n:=⟨x.toNat,by omega⟩
 have hp:0<2 ^ k:=Nat.two_pow_pos k
 have hl:=Nat.mod_le n (2 ^ k)
 have:=or_nat n k (by omega) hk
 rw [show ((m:Int)-1)=((2 ^ k-1:Nat):Int) by omega,this,hm]
 rw [Int.natCast_add,Int.natCast_sub hl,Int.natCast_emod]
theorem clear_int (x:Int) (k m:Nat) (hm:m=2 ^ k) (h0:0≤x) (h1:x<1099511627776) (hk:k≤40):bits .andNot .i64 x ((m:Int)-1)=x-x%m:=by
 obtain ⟨n,rfl⟩:∃n:Nat,x=n:=⟨x.toNat,by omega⟩
 have hp:0<2 ^ k:=Nat.two_pow_pos k
 have hl:=Nat.mod_le n (2 ^ k)
 have:=clear_nat n k (by omega) hk
 rw [show ((m:Int)-1)=((2 ^ k-1:Nat):Int) by omega,this,hm]
 rw [Int.natCast_sub hl,Int.natCast_emod]
end Sp
section
open Go.RowKit
theorem Tryz.infoB5:(Tryz.prog.info? 5).map (fun i=>(i.zero,i.size,i.bytes))=some (some (.int .u8 0),1,1):=by kernel_rfl
theorem Tryz.infoI:(Tryz.prog.info? 3).map (fun i=>(i.zero,i.size,i.bytes))=some (some (.int .i64 0),1,8):=by kernel_rfl
def bytesV5 (l:List UInt8):List Value:=l.map (fun c=>.int .u8 (c.toNat:Int))
theorem bytesV_length5 (l:List UInt8):(bytesV5 l).length=l.length:=by simp [bytesV5]
def OwnB5 (w:World) (B:Nat) (v:Value) (l:List UInt8):Prop:=w.ownsRow B 5 1 v l.length (bytesV5 l)
theorem own_conv5 {w:World} {B:Nat} {v:Value} {l:List UInt8} (h:OwnB5 w B v l):
  (convert 102 9 v).run Tryz.prog w=.ok (.string ⟨l.toArray⟩) w:=by
 have hown:w.ownsRow B 5 1 v l.length (bytesV5 l):=h
 rcases h.2 with ⟨rfl,h0⟩ | ⟨g,cap,cur,rfl,hg,hh,hnc,hcp,hcs,htake⟩
 ·obtain rfl:l=[]:=List.length_eq_zero_iff.1 h0
  rw [run_convert_bytes_string w 102 9 5 none 0 0 Tryz.underlying102 Tryz.underlying5 Tryz.underlying9]
  simp [Conv.bytesToString]
  rfl
 ·have hcells:∀j (hj:j<l.length),w.cell? ((⟨g,0,none⟩:Addr).add j)=some (.int .u8 (l[j].toNat:Int)):=fun j hj=>by
   rw [Addr.add_lit,Nat.zero_add,hown.cellAt j (by omega)]
   simp [bytesV5,hj]
  exact run_convert_bytes_back (P:=Tryz.prog) w 102 9 5 ⟨g,0,none⟩ cap l Tryz.underlying102 Tryz.underlying5 Tryz.underlying9 hcells
def intsV5 (l:List Int):List Value:=l.map (fun c=>.int .i64 c)
theorem intsV_snoc5 (l:List Int) (c:Int):intsV5 l++[.int .i64 c]=intsV5 (l++[c]):=by simp [intsV5]
def OwnI (w:World) (B:Nat) (v:Value) (l:List Int):Prop:=w.ownsRow B 3 1 v l.length (intsV5 l)
theorem ownI_push {w wr w1:World} {B:Nat} {v v':Value} {l:List Int} {c:Int} {o:Obj} (hB:B≤wr.heap.size) (h:OwnI wr B v l) (hb:Below B w wr)
  (h1:w1.ownsRow B 3 1 v' (l.length+1) (intsV5 l++[.int .i64 c])) (hg:(wr.alloc o).grownBy w1 v.ownBlock):
  OwnI w1 B v' (l++[c])∧Below B w w1:=by
 have hown:wr.ownsRow B 3 1 v l.length (intsV5 l):=h
 refine ⟨?_,(hb.alloc hB o).grown hg (by simp;omega) (fun j hj=>(hown.lt j hj).1)⟩
 unfold OwnI
 rw [intsV_snoc5] at h1
 simpa using h1
theorem ownI_cells {w:World} {B:Nat} {v:Value} {l:List Int} (h:OwnI w B v l):∃a cap,v=.slice a l.length cap∧(0<l.length→∃g,a=some ⟨g,0,none⟩∧g<w.heap.size∧∀j (hj:j<l.length),w.cell? ⟨g,j,none⟩=some (.int .i64 l[j])):=by
 have hown:w.ownsRow B 3 1 v l.length (intsV5 l):=h
 rcases h.2 with ⟨rfl,h0⟩ | ⟨g,cap,cur,rfl,hg,hh,hnc,hcp,hcs,htake⟩
 ·exact ⟨none,0,by rw [h0],fun h=>by omega⟩
 ·refine ⟨_,_,rfl,fun h=>⟨g,rfl,(hown.lt g rfl).2,fun j hj=>?_⟩⟩
  rw [hown.cellAt j (by omega)]
  simp [intsV5,hj]
def IntS (w:World) (v:Value) (xs:List Int):Prop:=
 ∃a cap,v=.slice a xs.length cap∧xs.length≤cap∧cap≤9223372036854775807∧(0<xs.length→∃g o,a=some ⟨g,o,none⟩∧g<w.heap.size∧∀j (_:j<xs.length),w.cell? ⟨g,o+j,none⟩=some (.int .i64 xs[j]))
theorem OwnI.ints {w:World} {B:Nat} {v:Value} {l:List Int} (h:OwnI w B v l) (_:l.length≤140737488355328):IntS w v l:=by
 rcases h.2 with ⟨rfl,h0⟩ | ⟨g,cap,cur,rfl,hg,hh,hnc,hcp,hcs,htake⟩
 ·exact ⟨none,0,by rw [h0],by omega,by omega,fun h=>by omega⟩
 ·have hown:w.ownsRow B 3 1 (.slice (some ⟨g,0,none⟩) l.length cap) l.length (intsV5 l):=h
  refine ⟨_,cap,rfl,hnc,by unfold maxLen at hcp;omega,fun h=>⟨g,0,rfl,(hown.lt g rfl).2,fun j hj=>?_⟩⟩
  rw [Nat.zero_add,hown.cellAt j (by omega)]
  simp [intsV5,hj]
theorem OwnI.keep {w w':World} {B B':Nat} {v:Value} {l:List Int} (h:OwnI w B v l) (hb:Below B' w w') (hB:w.heap.size≤B'):OwnI w' B v l:=by
 have hown:w.ownsRow B 3 1 v l.length (intsV5 l):=h
 refine ⟨h.1,?_⟩
 rcases h.2 with ⟨h1,h2⟩ | ⟨g,cap,cur,h1,hg,hh,hnc,hcp,hcs,htake⟩
 ·exact .inl ⟨h1,h2⟩
 ·have hlt:g<w.heap.size:=(hown.lt g (by rw [h1];rfl)).2
  exact .inr ⟨g,cap,cur,h1,hg,(hb.block g (Nat.lt_of_lt_of_le hlt hB)).trans hh,hnc,hcp,hcs,htake⟩
theorem ints_lit (w:World) (zs:List Int) (h0:zs.length≤9223372036854775807):IntS (w.alloc (.cells (intsV5 zs).toArray 3)) (.slice (some ⟨w.heap.size,0,none⟩) zs.length zs.length) zs:=by
 refine ⟨_,zs.length,rfl,Nat.le_refl _,h0,fun _=>⟨w.heap.size,0,rfl,by simp,fun j hj=>?_⟩⟩
 rw [Nat.zero_add,World.cell?_alloc_at _ _ _ _ rfl]
 simp [intsV5,hj]
end
section
open Go.RowKit
namespace Sp
theorem pw_nat (t:Nat):pw t=((2 ^ (6*t):Nat):Int):=by
 unfold pw
 rw [Nat.pow_mul]
 simp
theorem pw_le (t:Nat) (h:t≤3):1≤pw t∧pw t≤262144:=⟨pw_pos t,(pw_cases t 3 (by omega) h).1⟩
theorem and_pw (x:Int) (t:Nat) (ht:t≤3) (h0:0≤x) (h1:x<1099511627776):bits .and .i64 x (pw t-1)=x%pw t:=by
 rw [pw_nat]
 exact and_int x (6*t) _ rfl h0 h1 (by omega)
theorem or_pw (x:Int) (t:Nat) (ht:t≤3) (h0:0≤x) (h1:x<1099511627776):bits .or .i64 x (pw t-1)=x-x%pw t+(pw t-1):=by
 rw [pw_nat]
 exact or_int x (6*t) _ rfl h0 h1 (by omega)
theorem clear_pw (x:Int) (t:Nat) (ht:t≤3) (h0:0≤x) (h1:x<1099511627776):bits .andNot .i64 x (pw t-1)=x-x%pw t:=by
 rw [pw_nat]
 exact clear_int x (6*t) _ rfl h0 h1 (by omega)
end Sp
namespace Sp
theorem endOf_lt {c last:Int} {tails t:Nat} (h:turns c last tails 0=t) (ht:t<tails):endOf c last tails=(min last (c-c%pw (t+1)+(pw (t+1)-1))+1)-(min last (c-c%pw (t+1)+(pw (t+1)-1))+1)%pw t-1:=by
 unfold endOf
 rw [h]
 dsimp only
 rw [if_pos ht]
theorem endOf_eq {c last:Int} {tails t:Nat} (h:turns c last tails 0=t) (ht:¬t<tails):endOf c last tails=(last+1)-(last+1)%pw t-1:=by
 unfold endOf
 rw [h]
 dsimp only
 rw [if_neg ht]
end Sp
theorem ret_iY {a b:Int} (h:a=b):Ending.returned (.int .i64 a)=.returned (.int .i64 b):=by rw [h]
theorem turn_any (t:Nat) (ht:t≤3) (w:World):Calls Tryz.prog 130 #[.int .i64 t] w fun e w'=>e=.returned (.int .i64 (Sp.pw t-1))∧w=w':=by
 have h:t=0∨t=1∨t=2∨t=3:=by omega
 clear ht
 rcases h with rfl | rfl | rfl | rfl
 all_goals
  go_enter Tryz.func130,Tryz.ntmps130
  go_wp2_with fail
  go_ret
  exact ⟨ret_iY (by decide +kernel),rfl⟩
theorem endOf_any (c last:Int) (tails:Nat) (w:World) (h0:0≤c) (hc:c≤last) (hl:last≤1114111) (ht:tails≤3):
  Calls Tryz.prog 118 #[.int .i64 c,.int .i64 last,.int .i64 tails] w fun e w'=>e=.returned (.int .i64 (Sp.endOf c last tails))∧w=w':=by
 go_enter Tryz.func118,Tryz.ntmps118
 go_wp2_with fail
 go_loop [7] (fun i=>∃t:Nat,t≤tails∧i=.int .i64 t∧Hid (Sp.turns c last tails 0=Sp.turns c last (tails-t) t)) (fun i=>tails-(intOf i).toNat)
 case atStart=>exact ⟨0,Nat.zero_le _,rfl,rfl⟩
 case round=>
  obtain ⟨t,htl,rfl,hT⟩:=hrel
  by_cases hlt:t<tails
  ·have i1:(t:Int)<(tails:Int):=by omega
   have ht3:t+1≤3:=by omega
   have hand:=Sp.and_pw c (t+1) ht3 h0 (by omega)
   have hor:=Sp.or_pw c (t+1) ht3 h0 (by omega)
   obtain ⟨p1,p2⟩:=Sp.pw_le (t+1) ht3
   have hm0:=Int.emod_nonneg c (show Sp.pw (t+1)≠0 by omega)
   have hm1:=Int.emod_lt_of_pos c (show 0<Sp.pw (t+1) by omega)
   have H:Hid (Calls Tryz.prog 130 #[.int .i64 ((t:Int)+1)] w fun e w'=>e=.returned (.int .i64 (Sp.pw (t+1)-1))∧w=w'):=by
    have:=turn_any (t+1) ht3 w
    rw [Int.natCast_succ] at this
    exact lh this
   obtain ⟨m,hm⟩:∃m,tails-t=m+1:=⟨tails-t-1,by omega⟩
   have hstep:Sp.turns c last (m+1) t=if c%Sp.pw (t+1)=0∧c+(Sp.pw (t+1)-1)≤last then Sp.turns c last m (t+1) else t:=rfl
   have hm2:tails-(t+1)=m:=by omega
   have HT:Hid (c%Sp.pw (t+1)=0∧c+(Sp.pw (t+1)-1)≤last→Sp.turns c last tails 0=Sp.turns c last (tails-(t+1)) (t+1)):=by
    intro hh
    rw [hT.out,hm,hstep,if_pos hh,hm2]
   have HN:Hid (¬(c%Sp.pw (t+1)=0∧c+(Sp.pw (t+1)-1)≤last)→Sp.turns c last tails 0=t):=by
    intro hh
    rw [hT.out,hm,hstep,if_neg hh]
   clear hm hstep hm2 hT
   by_cases hz:c%Sp.pw (t+1)=0
   ·by_cases hle:c+(Sp.pw (t+1)-1)≤last
    ·have hT2:Hid (Sp.turns c last tails 0=Sp.turns c last (tails-(t+1)) (t+1)):=HT.out ⟨hz,hle⟩
     rw [hz] at hand hor
     rw [Int.sub_zero] at hor
     clear hz hm0 hm1 HT HN
     generalize Sp.pw (t+1)=P at *
     go_wp2_with (go_at_call 130;refine H.out.mono ?_;rintro e w' ⟨rfl,rfl⟩)
     go_round
     case rel=>exact ⟨t+1,by omega,by go_num,hT2⟩
     case measure=>simp [intOf];omega
    ·have hfin:Hid (Sp.turns c last tails 0=t):=HN.out (fun h=>hle h.2)
     rw [hz] at hand hor
     rw [Int.sub_zero] at hor
     clear HT HN
     obtain ⟨q1,q2⟩:=Sp.pw_le t (by omega)
     have H0:=lh (turn_any t (by omega) w)
     have hE:=Sp.endOf_lt hfin.out hlt
     skip
     clear hfin
     by_cases hmin:last≤c+(Sp.pw (t+1)-1)
     ·rw [show min last (c-c%Sp.pw (t+1)+(Sp.pw (t+1)-1))=last by omega] at hE
      have hcl:=Sp.clear_pw (last+1) t (by omega) (by omega) (by omega)
      have HF:=lh hE
      have hn0:=Int.emod_nonneg (last+1) (show Sp.pw t≠0 by omega)
      have hn1:=Int.emod_lt_of_pos (last+1) (show 0<Sp.pw t by omega)
      clear hE hz hm0 hm1
      generalize Sp.pw (t+1)=P at *
      generalize Sp.pw t=R at *
      skip
      go_wp2_with (go_at_call 130;first | (refine H.out.mono ?_;rintro e w' ⟨rfl,rfl⟩) | (refine H0.out.mono ?_;rintro e w' ⟨rfl,rfl⟩))
      go_ret
      exact ⟨ret_iY HF.out.symm,rfl⟩
     ·exact absurd (show c+(Sp.pw (t+1)-1)≤last by omega) hle
   ·have hfin:Hid (Sp.turns c last tails 0=t):=HN.out (fun h=>hz h.1)
    have hz1:(c%Sp.pw (t+1)==0)=false:=by simpa using hz
    clear HT HN
    obtain ⟨q1,q2⟩:=Sp.pw_le t (by omega)
    have H0:=lh (turn_any t (by omega) w)
    have hE:=Sp.endOf_lt hfin.out hlt
    skip
    clear hfin
    by_cases hmin:last≤c-c%Sp.pw (t+1)+(Sp.pw (t+1)-1)
    ·rw [show min last (c-c%Sp.pw (t+1)+(Sp.pw (t+1)-1))=last by omega] at hE
     have hcl:=Sp.clear_pw (last+1) t (by omega) (by omega) (by omega)
     have HF:=lh hE
     have hn0:=Int.emod_nonneg (last+1) (show Sp.pw t≠0 by omega)
     have hn1:=Int.emod_lt_of_pos (last+1) (show 0<Sp.pw t by omega)
     clear hE hz
     generalize Sp.pw (t+1)=P at *
     generalize Sp.pw t=R at *
     generalize c%P=cm at *
     go_wp2_with (go_at_call 130;first | (refine H.out.mono ?_;rintro e w' ⟨rfl,rfl⟩) | (refine H0.out.mono ?_;rintro e w' ⟨rfl,rfl⟩))
     go_ret
     exact ⟨ret_iY HF.out.symm,rfl⟩
    ·rw [show min last (c-c%Sp.pw (t+1)+(Sp.pw (t+1)-1))=c-c%Sp.pw (t+1)+(Sp.pw (t+1)-1) by omega] at hE
     have hcl:=Sp.clear_pw (c-c%Sp.pw (t+1)+(Sp.pw (t+1)-1)+1) t (by omega) (by omega) (by omega)
     have HF:=lh hE
     have hn0:=Int.emod_nonneg (c-c%Sp.pw (t+1)+(Sp.pw (t+1)-1)+1) (show Sp.pw t≠0 by omega)
     have hn1:=Int.emod_lt_of_pos (c-c%Sp.pw (t+1)+(Sp.pw (t+1)-1)+1) (show 0<Sp.pw t by omega)
     clear hE hz
     generalize Sp.pw (t+1)=P at *
     generalize Sp.pw t=R at *
     generalize c%P=cm at *
     go_wp2_with (go_at_call 130;first | (refine H.out.mono ?_;rintro e w' ⟨rfl,rfl⟩) | (refine H0.out.mono ?_;rintro e w' ⟨rfl,rfl⟩))
     go_ret
     exact ⟨ret_iY HF.out.symm,rfl⟩
  ·have hfin:Hid (Sp.turns c last tails 0=t):=by
    show _=_
    rw [hT.out,show tails-t=0 by omega]
    rfl
   have H0:=lh (turn_any t (by omega) w)
   have H:=H0
   obtain ⟨q1,q2⟩:=Sp.pw_le t (by omega)
   have hE:=Sp.endOf_eq hfin.out hlt
   have hcl:=Sp.clear_pw (last+1) t (by omega) (by omega) (by omega)
   have HF:=lh hE
   have hn0:=Int.emod_nonneg (last+1) (show Sp.pw t≠0 by omega)
   have hn1:=Int.emod_lt_of_pos (last+1) (show 0<Sp.pw t by omega)
   clear hfin hT hE
   generalize Sp.pw t=R at *
   go_wp2_with (go_at_call 130;first | (refine H.out.mono ?_;rintro e w' ⟨rfl,rfl⟩) | (refine H0.out.mono ?_;rintro e w' ⟨rfl,rfl⟩))
   go_ret
   exact ⟨ret_iY HF.out.symm,rfl⟩
end
section
open Go.RowKit
namespace Ut
def among (c:Int):List Int→Bool
 | a :: b :: r=>decide (a≤c∧c≤b)||among c r
 | _=>false
def letter (c:Int):Bool:=among c [97,122,65,90,48,57,192,214,216,246,248,591,880,893,895,1153,1155,1327,19968,40959]
def fold (c:Int):Int:=
 if among c [65,90,192,214,216,222,913,929,931,937,1040,1071]=true then c+32
 else if 1024≤c∧c≤1039 then c+80 else if c=962 then 963 else c
theorem fold_far (c:Int) (h:c<0∨1071<c):fold c=c:=by
 have hn:among c [65,90,192,214,216,222,913,929,931,937,1040,1071]=false:=by
  simp only [among,Bool.or_eq_false_iff,decide_eq_false_iff_not]
  refine ⟨?_,?_,?_,?_,?_,?_,trivial⟩ <;> omega
 unfold fold
 rw [hn,if_neg Bool.false_ne_true,if_neg (by omega),if_neg (by omega)]
theorem fold_near:∀n:Fin 1072,((n.val:Int)≤fold (n.val:Int)∧fold (n.val:Int)≤(n.val:Int)+80)∧fold (fold (n.val:Int))=fold (n.val:Int)∧(letter (n.val:Int)=true→letter (fold (n.val:Int))=true):=by decide +kernel
theorem fold_all (c:Int):(c≤fold c∧fold c≤c+80)∧fold (fold c)=fold c∧(letter c=true→letter (fold c)=true):=by
 by_cases h:c<0∨1071<c
 ·rw [fold_far c h,fold_far c h]
  exact ⟨by omega,rfl,id⟩
 ·have:=fold_near ⟨c.toNat,by omega⟩
  rw [show (((⟨c.toNat,by omega⟩:Fin 1072).val:Nat):Int)=c from by show ((c.toNat:Nat):Int)=c;omega] at this
  exact this
theorem fold_bound (c:Int):c≤fold c∧fold c≤c+80:=(fold_all c).1
theorem whole_fold (c:Int) (h:whole c=true):whole (fold c)=true:=by
 by_cases hf:c<0∨1071<c
 ·rw [fold_far c hf];exact h
 ·have:=fold_bound c
  rw [whole_iff] at *
  omega
end Ut
theorem ret_bool {a b:Bool} (h:a=b):Ending.returned (.bool a)=.returned (.bool b):=by rw [h]
theorem ret_i {k:IntKind} {a b:Int} (h:a=b):Ending.returned (.int k a)=.returned (.int k b):=by rw [h]
theorem within_any (c lo hi:Int) (w:World):
  Calls Tryz.prog 96 #[.int .i64 c,.int .i64 lo,.int .i64 hi] w fun e w'=>e=.returned (.bool (decide (lo≤c∧c≤hi)))∧w=w':=by
 by_cases h1:lo≤c
 ·by_cases h2:c≤hi
  ·have e:decide (lo≤c∧c≤hi)=true:=decide_eq_true ⟨h1,h2⟩
   rw [e]
   go_enter Tryz.func96,Tryz.ntmps96
   go_wp2_with fail
   go_ret
   exact ⟨rfl,rfl⟩
  ·have e:decide (lo≤c∧c≤hi)=false:=decide_eq_false (fun h=>h2 h.2)
   rw [e]
   go_enter Tryz.func96,Tryz.ntmps96
   go_wp2_with fail
   go_ret
   exact ⟨rfl,rfl⟩
 ·have e:decide (lo≤c∧c≤hi)=false:=decide_eq_false (fun h=>h1 h.1)
  rw [e]
  go_enter Tryz.func96,Tryz.ntmps96
  go_wp2_with fail
  go_ret
  exact ⟨rfl,rfl⟩
theorem whole_any (c:Int) (w:World):
  Calls Tryz.prog 135 #[.int .i64 c] w fun e w'=>e=.returned (.bool (Ut.whole c))∧w=w':=by
 have h1:=lh (within_any c 0 55295 w)
 have h2:=lh (within_any c 57344 1114111 w)
 have hw:Hid (Ut.whole c=(decide (0≤c∧c≤55295)||decide (57344≤c∧c≤1114111))):=by
  show _=_
  rw [Bool.eq_iff_iff,Ut.whole_iff,Bool.or_eq_true,decide_eq_true_iff,decide_eq_true_iff]
  omega
 generalize decide (0≤c∧c≤55295)=a at *
 generalize decide (57344≤c∧c≤1114111)=b at *
 go_enter Tryz.func135,Tryz.ntmps135
 go_wp2_with fail
 refine h1.out.mono ?_
 rintro e w1 ⟨rfl,rfl⟩
 cases a
 ·go_wp2_with fail
  refine h2.out.mono ?_
  rintro e w1 ⟨rfl,rfl⟩
  go_wp2_with fail
  go_ret
  exact ⟨by rw [hw.out];rfl,rfl⟩
 ·go_wp2_with fail
  go_ret
  exact ⟨by rw [hw.out];rfl,rfl⟩
theorem letter_split (c:Int) (h1:¬c=215) (h2:¬c=247) (h3:¬c=894) (h4:¬c=1154):
  Ut.letter c=(decide (97≤c∧c≤122)||(decide (65≤c∧c≤90)||(decide (48≤c∧c≤57)||(decide (192≤c∧c≤591)||(decide (880≤c∧c≤1327)||decide (19968≤c∧c≤40959)))))):=by
 have e1:decide (192≤c∧c≤591)=(decide (192≤c∧c≤214)||(decide (216≤c∧c≤246)||decide (248≤c∧c≤591))):=by
  rw [←Bool.decide_or,←Bool.decide_or]
  exact decide_eq_decide.2 (by omega)
 have e2:decide (880≤c∧c≤1327)=(decide (880≤c∧c≤893)||(decide (895≤c∧c≤1153)||decide (1155≤c∧c≤1327))):=by
  rw [←Bool.decide_or,←Bool.decide_or]
  exact decide_eq_decide.2 (by omega)
 rw [e1,e2]
 simp only [Ut.letter,Ut.among,Bool.or_assoc,Bool.or_false]
theorem letter_any (c:Int) (w:World):
  Calls Tryz.prog 73 #[.int .i64 c] w fun e w'=>e=.returned (.bool (Ut.letter c))∧w=w':=by
 by_cases h:c=215∨c=247∨c=894∨c=1154
 ·rcases h with rfl | rfl | rfl | rfl
  all_goals
   go_enter Tryz.func73,Tryz.ntmps73
   go_wp2_with fail
   go_ret
   exact ⟨ret_bool (by decide +kernel),rfl⟩
 ·have hs:=lh (letter_split c (by omega) (by omega) (by omega) (by omega))
  have n1:(c==215)=false:=by simp;omega
  have n2:(c==247)=false:=by simp;omega
  have n3:(c==894)=false:=by simp;omega
  have n4:(c==1154)=false:=by simp;omega
  have H1:=lh (within_any c 97 122 w)
  have H2:=lh (within_any c 65 90 w)
  have H3:=lh (within_any c 48 57 w)
  have H4:=lh (within_any c 192 591 w)
  have H5:=lh (within_any c 880 1327 w)
  have H6:=lh (within_any c 19968 40959 w)
  generalize decide (97≤c∧c≤122)=a1 at *
  generalize decide (65≤c∧c≤90)=a2 at *
  generalize decide (48≤c∧c≤57)=a3 at *
  generalize decide (192≤c∧c≤591)=a4 at *
  generalize decide (880≤c∧c≤1327)=a5 at *
  generalize decide (19968≤c∧c≤40959)=a6 at *
  clear h
  go_enter Tryz.func73,Tryz.ntmps73
  go_wp2_with fail
  refine H1.out.mono ?_
  rintro e w1 ⟨rfl,rfl⟩
  cases a1
  case true=>(go_wp2_with fail;go_ret;exact ⟨ret_bool (by rw [hs.out];simp),rfl⟩)
  go_wp2_with fail
  refine H2.out.mono ?_
  rintro e w1 ⟨rfl,rfl⟩
  cases a2
  case true=>(go_wp2_with fail;go_ret;exact ⟨ret_bool (by rw [hs.out];simp),rfl⟩)
  go_wp2_with fail
  refine H3.out.mono ?_
  rintro e w1 ⟨rfl,rfl⟩
  cases a3
  case true=>(go_wp2_with fail;go_ret;exact ⟨ret_bool (by rw [hs.out];simp),rfl⟩)
  go_wp2_with fail
  refine H4.out.mono ?_
  rintro e w1 ⟨rfl,rfl⟩
  cases a4
  case true=>(go_wp2_with fail;go_ret;exact ⟨ret_bool (by rw [hs.out];simp),rfl⟩)
  go_wp2_with fail
  refine H5.out.mono ?_
  rintro e w1 ⟨rfl,rfl⟩
  cases a5
  case true=>(go_wp2_with fail;go_ret;exact ⟨ret_bool (by rw [hs.out];simp),rfl⟩)
  go_wp2_with fail
  refine H6.out.mono ?_
  rintro e w1 ⟨rfl,rfl⟩
  cases a6
  ·go_wp2_with fail
   go_ret
   exact ⟨ret_bool (by rw [hs.out];simp),rfl⟩
  ·go_wp2_with fail
   go_ret
   exact ⟨ret_bool (by rw [hs.out];simp),rfl⟩
theorem fold_split (c:Int) (h1:¬c=215) (h2:¬c=930):
  Ut.fold c=if (decide (65≤c∧c≤90)||(decide (192≤c∧c≤222)||(decide (913≤c∧c≤937)||decide (1040≤c∧c≤1071))))=true then c+32 else if decide (1024≤c∧c≤1039)=true then c+80 else if c=962 then 963 else c:=by
 have e1:decide (192≤c∧c≤222)=(decide (192≤c∧c≤214)||decide (216≤c∧c≤222)):=by
  rw [←Bool.decide_or]
  exact decide_eq_decide.2 (by omega)
 have e2:decide (913≤c∧c≤937)=(decide (913≤c∧c≤929)||decide (931≤c∧c≤937)):=by
  rw [←Bool.decide_or]
  exact decide_eq_decide.2 (by omega)
 rw [e1,e2]
 simp only [Ut.fold,Ut.among,Bool.or_assoc,Bool.or_false,decide_eq_true_iff]
theorem fold_any (c:Int) (w:World):
  Calls Tryz.prog 114 #[.int .i64 c] w fun e w'=>e=.returned (.int .i64 (Ut.fold c))∧w=w':=by
 by_cases h:c=215∨c=930
 ·rcases h with rfl | rfl
  all_goals
   go_enter Tryz.func114,Tryz.ntmps114
   go_wp2_with fail
   go_ret
   exact ⟨ret_i (by decide +kernel),rfl⟩
 ·have hs:=lh (fold_split c (by omega) (by omega))
  have n1:(c==215)=false:=by simp;omega
  have n2:(c==930)=false:=by simp;omega
  have H1:=lh (within_any c 65 90 w)
  have H2:=lh (within_any c 192 222 w)
  have H3:=lh (within_any c 913 937 w)
  have H4:=lh (within_any c 1040 1071 w)
  have H5:=lh (within_any c 1024 1039 w)
  have hb:-10≤c∧c≤2000∨(decide (65≤c∧c≤90)=false∧decide (192≤c∧c≤222)=false∧decide (913≤c∧c≤937)=false∧decide (1040≤c∧c≤1071)=false∧decide (1024≤c∧c≤1039)=false):=by
   by_cases hc:-10≤c∧c≤2000
   ·exact .inl hc
   ·refine .inr ⟨?_,?_,?_,?_,?_⟩ <;> exact decide_eq_false (by omega)
  generalize decide (65≤c∧c≤90)=a1 at *
  generalize decide (192≤c∧c≤222)=a2 at *
  generalize decide (913≤c∧c≤937)=a3 at *
  generalize decide (1040≤c∧c≤1071)=a4 at *
  generalize decide (1024≤c∧c≤1039)=a5 at *
  have HB:=lh hb
  clear h hb
  go_enter Tryz.func114,Tryz.ntmps114
  go_wp2_with fail
  refine H1.out.mono ?_
  rintro e w1 ⟨rfl,rfl⟩
  cases a1
  case true=>
   have hb:=HB.out
   simp only [Bool.true_eq_false,false_and,or_false] at hb
   go_wp2_with fail
   go_ret
   exact ⟨ret_i (by rw [hs.out];simp <;> omega),rfl⟩
  go_wp2_with fail
  refine H2.out.mono ?_
  rintro e w1 ⟨rfl,rfl⟩
  cases a2
  case true=>
   have hb:=HB.out
   simp only [Bool.true_eq_false,false_and,and_false,or_false] at hb
   go_wp2_with fail
   go_ret
   exact ⟨ret_i (by rw [hs.out];simp <;> omega),rfl⟩
  go_wp2_with fail
  refine H3.out.mono ?_
  rintro e w1 ⟨rfl,rfl⟩
  cases a3
  case true=>
   have hb:=HB.out
   simp only [Bool.true_eq_false,false_and,and_false,or_false] at hb
   go_wp2_with fail
   go_ret
   exact ⟨ret_i (by rw [hs.out];simp <;> omega),rfl⟩
  go_wp2_with fail
  refine H4.out.mono ?_
  rintro e w1 ⟨rfl,rfl⟩
  cases a4
  case true=>
   have hb:=HB.out
   simp only [Bool.true_eq_false,false_and,and_false,or_false] at hb
   go_wp2_with fail
   go_ret
   exact ⟨ret_i (by rw [hs.out];simp <;> omega),rfl⟩
  go_wp2_with fail
  refine H5.out.mono ?_
  rintro e w1 ⟨rfl,rfl⟩
  cases a5
  case true=>
   have hb:=HB.out
   simp only [Bool.true_eq_false,and_false,or_false] at hb
   go_wp2_with fail
   go_ret
   exact ⟨ret_i (by rw [hs.out];simp <;> omega),rfl⟩
  by_cases h9:c=962
  ·subst h9
   go_wp2_with fail
   go_ret
   exact ⟨ret_i (by rw [hs.out];simp),rfl⟩
  ·have n9:(c==962)=false:=by simp;omega
   go_wp2_with fail
   go_ret
   exact ⟨ret_i (by rw [hs.out];simp [h9]),rfl⟩
end
section
open Go.RowKit
theorem wpList_pushI {ops:Array Oper} {rest:List Oper} {o:Oper} {a:Act} {Q:Exit→Act→World→Prop} {w:World} (hgd:o.guard=none) (s x:Operand)
  (ho:o.op=.call { callee:=.builtin .append,args:=#[s,x],argTypes:=#[82,82]})
  (B:Nat) (hB:B≤w.heap.size) (v:Value) (l:List Int) (c:Int) (hs:a.eval s=v) (h:OwnI w B v l) (hx:a.eval x=.slice (some ⟨w.heap.size,0,none⟩) 1 1)
  (hb:l.length+1≤17592186044416)
  (hk:∀v' w',OwnI w' B v' (l++[c])→Below B w w'→(w.alloc (.cells #[.int .i64 c] 3)).grownBy w' v.ownBlock→wpList Tryz.prog ops Q rest (a.put o.dst v') w'):
  wpList Tryz.prog ops Q (o :: rest) a (w.alloc (.cells #[.int .i64 c] 3)):=by
 obtain ⟨ii,hi,hz0,hz1,hz2⟩:=info_parts Tryz.infoI
 have hown:w.ownsRow B 3 1 v l.length (intsV5 l):=h
 refine wpList_append_own _ hgd s x 82 ho B 3 ii (.int .i64 0) 1 8 Tryz.underlying82 hi hz0 hz1 hz2 rfl (by decide) _ _ _ hs (hown.alloc _) ⟨w.heap.size,0,none⟩ 1 1 [.int .i64 c] hx rfl ?_ ?_ (by unfold maxLen;omega) (by omega) (by simp;omega) ?_
 ·intro j u hj
  match j,hj with
  | 0,hj=>simp at hj;subst hj;simp [Addr.add]
 ·intro u hu
  simp at hu
  subst hu
  rfl
 ·intro v' w' h1 h2 _
  obtain ⟨h3,h4⟩:=ownI_push hB h (Below.refl B w) h1 h2
  exact hk v' w' h3 h4 h2
theorem OwnI.of_heap {w w':World} {B:Nat} {v:Value} {l:List Int} (h:OwnI w B v l) (e:∀k,v.ownBlock=some k→k<w.heap.size→w'.heap[k]?=w.heap[k]?):OwnI w' B v l:=by
 have hown:w.ownsRow B 3 1 v l.length (intsV5 l):=h
 refine ⟨h.1,?_⟩
 rcases h.2 with ⟨h1,h2⟩ | ⟨g,cap,cur,h1,hg,hh,hnc,hcp,hcs,htake⟩
 ·exact .inl ⟨h1,h2⟩
 ·have hlt:g<w.heap.size:=(hown.lt g (by rw [h1];rfl)).2
  exact .inr ⟨g,cap,cur,h1,hg,(e g (by rw [h1];rfl) hlt).trans hh,hnc,hcp,hcs,htake⟩
theorem OwnI.ne_iter {w:World} {B:Nat} {v:Value} {l:List Int} {K:Nat} {s:ByteArray} {pos:Nat} (h:OwnI w B v l) (hk:w.heap[K]?=some (.stringIter s pos)):∀k,v.ownBlock=some k→k≠K:=by
 intro k hv e
 subst e
 rcases h.2 with ⟨h1,_⟩ | ⟨g,cap,cur,h1,hg,hh,_⟩
 ·rw [h1] at hv;cases hv
 ·rw [h1] at hv
  obtain rfl:g=k:=by simpa [Value.ownBlock] using hv
  rw [hk] at hh
  cases hh
theorem OwnI.iterAt {w:World} {B:Nat} {v:Value} {l:List Int} {K:Nat} {s:ByteArray} {pos:Nat} (h:OwnI w B v l) (hk:w.heap[K]?=some (.stringIter s pos)) (pos':Nat):OwnI (w.iterAt K s pos') B v l:=
 h.of_heap fun k hv _=>by
  have hne:=h.ne_iter hk k hv
  simp only [World.iterAt]
  rw [Array.getElem?_setIfInBounds_ne (Ne.symm hne)]
theorem below_iterAt {B:Nat} {w0 w:World} {K:Nat} {s:ByteArray} (h:Below B w0 w) (hK:B≤K) (pos':Nat):Below B w0 (w.iterAt K s pos'):=
 h.trans ⟨rfl,rfl,rfl,by simp [World.iterAt],fun k hk=>by simp only [World.iterAt];rw [Array.getElem?_setIfInBounds_ne (by omega)]⟩
end
end Go.Proofs.YtmdefnbpimfbgaaGreatDoor

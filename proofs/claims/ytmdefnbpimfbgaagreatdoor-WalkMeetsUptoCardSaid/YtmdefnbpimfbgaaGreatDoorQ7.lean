/-
  Lemmas on automata, dictionaries and the walk over them, the program's calls and the given ones.
-/
import Derived.Test.YtmdefnbpimfbgaaGreatDoorQ6
import Derived.Test.YtmdefnbpimfbgaaGreatDoorQ1
set_option maxRecDepth 100000
set_option maxHeartbeats 16000000
namespace Go.Proofs.YtmdefnbpimfbgaaGreatDoor
namespace Iv
open Od
theorem xor_xor (x f:Nat) (hx:x<256) (hf:f<256):(UInt8.ofNat (x ^^^ f)).toNat ^^^ f=x:=by
 have h:x ^^^ f<256:=Nat.xor_lt_two_pow (n:=8) (by simpa using hx) (by simpa using hf)
 rw [UInt8.toNat_ofNat',Nat.mod_eq_of_lt h,Nat.xor_assoc,Nat.xor_self,Nat.xor_zero]
theorem val_be (f:Nat) (hf:f<256):∀(k m acc:Nat),Pl.val f (Pl.be f k m) acc=acc*256 ^ k+m%256 ^ k:=by
 intro k
 induction k with
 | zero=>intro m acc;simp [Pl.be,Pl.val,Nat.mod_one]
 | succ k ih=>
  intro m acc
  rw [be_succ]
  simp only [Pl.val]
  rw [xor_xor _ f (by omega) hf,ih,Nat.pow_succ,Nat.mod_mul,Nat.add_mul,Nat.mul_comm (256 ^ k) 256,←Nat.mul_assoc,Nat.mul_comm acc 256,Nat.mul_comm (m/256 ^ k%256) (256 ^ k)]
  omega
theorem rdNum_near (c:UInt8) (r:List UInt8) (h:c.toNat ^^^ Pl.flipOf c<240):Pl.rdNum (c :: r)=Pl.back (Pl.flipOf c) (((c.toNat ^^^ Pl.flipOf c:Nat):Int)-128,1,0):=by
 simp only [Pl.rdNum]
 rw [if_pos h]
theorem rdNum_wide (c:UInt8) (r:List UInt8) (h:¬c.toNat ^^^ Pl.flipOf c<240):Pl.rdNum (c :: r)=Pl.back (Pl.flipOf c) (Pl.rdWide c r (Pl.flipOf c)):=by
 simp only [Pl.rdNum]
 rw [if_neg h]
theorem flip_of (x f:Nat) (hx:128≤x) (hx2:x<256) (hf:f=0∨f=255):Pl.flipOf (UInt8.ofNat (x ^^^ f))=f∧(UInt8.ofNat (x ^^^ f)).toNat ^^^ f=x:=by
 refine ⟨?_,xor_xor x f hx2 (by omega)⟩
 unfold Pl.flipOf
 rcases hf with rfl | rfl
 ·rw [hd0 x hx2,if_neg (by omega)]
 ·rw [hd255 x hx2,if_pos (by omega)]
theorem num_back (n:Int) (r:List UInt8) (h0:-9223372036854775808≤n) (h1:n≤9223372036854775807):Pl.rdNum (Pl.numB n++r)=(n,((Pl.numB n).length:Int),0):=by
 have hsg:Pl.sgn n=0∨Pl.sgn n=255:=by unfold Pl.sgn;split <;> omega
 have hw:=Pl.wid_le (Pl.mag n-112)
 have hb:Pl.back (Pl.sgn n) ((Pl.mag n:Int),0,0)=(n,0,0):=by
  by_cases hn:n<0
  ·obtain ⟨e1,e2⟩:=mag_neg hn
   rw [e2]
   unfold Pl.back
   rw [if_pos ⟨rfl,by omega⟩]
   simp only [Prod.mk.injEq,and_true]
   omega
  ·obtain ⟨e1,e2⟩:=mag_nn hn
   rw [e2]
   unfold Pl.back
   rw [if_neg (by omega)]
   simp only [Prod.mk.injEq,and_true]
   omega
 have hb2:∀z:Int,Pl.back (Pl.sgn n) ((Pl.mag n:Int),z,0)=(n,z,0):=by
  intro z
  unfold Pl.back at hb ⊢
  split at hb
  ·rename_i hc
   rw [if_pos hc]
   simp only [Prod.mk.injEq,and_true] at hb ⊢
   exact hb
  ·rename_i hc
   rw [if_neg hc]
   simp only [Prod.mk.injEq,and_true] at hb ⊢
   exact hb
 have hm:Pl.mag n≤9223372036854775807:=by
  by_cases hn:n<0
  ·have:=(mag_neg hn).1;omega
  ·have:=(mag_nn hn).1;omega
 by_cases hnear:Pl.mag n<112
 ·obtain ⟨f1,f2⟩:=flip_of (128+Pl.mag n) (Pl.sgn n) (by omega) (by omega) hsg
  rw [numB_near hnear]
  show Pl.rdNum (_ :: r)=_
  rw [rdNum_near _ r (by rw [f1,f2];omega),f1,f2]
  rw [show ((128+Pl.mag n:Nat):Int)-128=(Pl.mag n:Int) from by omega]
  exact hb2 1
 ·obtain ⟨f1,f2⟩:=flip_of (239+Pl.wid (Pl.mag n-112)) (Pl.sgn n) (by omega) (by omega) hsg
  rw [numB_long hnear,List.cons_append,rdNum_wide _ _ (by rw [f1,f2];omega),f1]
  have hl:=lt_wid (Pl.mag n-112) (by omega)
  unfold Pl.rdWide
  rw [f2,if_neg (by omega),if_neg (by rw [List.length_append,be_length];omega)]
  rw [show 239+Pl.wid (Pl.mag n-112)-239=(Pl.be (Pl.sgn n) (Pl.wid (Pl.mag n-112)) (Pl.mag n-112)).length from by rw [be_length];omega]
  rw [List.take_left,val_be (Pl.sgn n) (by omega),Nat.zero_mul,Nat.zero_add,Nat.mod_eq_of_lt hl,be_length,if_neg (by omega)]
  rw [show ((Pl.mag n-112:Nat):Int)+112=(Pl.mag n:Int) from by omega,hb2]
  rw [List.length_cons,be_length]
  simp only [Prod.mk.injEq,and_true,true_and]
  omega
end Iv
section
open Go.RowKit
def OwnZ (w:World) (B:Nat) (v:Value) (l:List Int):Prop:=w.ownsRow B 3 1 v l.length (l.map (Value.int .i64))
theorem OwnZ.kind {w:World} {B:Nat} {v:Value} {l:List Int} (h:OwnZ w B v l):∀g,v.ownBlock=some g→B≤g∧g<w.heap.size∧∃c fz,w.heap[g]?=some (Obj.cells c 3 fz):=by
 intro g hv
 refine ⟨(World.ownsRow.lt h g hv).1,(World.ownsRow.lt h g hv).2,?_⟩
 rcases h.2 with ⟨h1,_⟩ | ⟨g',cap,cur,h1,hg,hh,_⟩
 ·rw [h1] at hv;cases hv
 ·rw [h1] at hv
  obtain rfl:g'=g:=by simpa [Value.ownBlock] using hv
  exact ⟨_,_,hh⟩
theorem OwnZ.nums {w:World} {B:Nat} {v:Value} {l:List Int} (h:OwnZ w B v l) (F:Nat→Prop) (hF:∀g,B≤g→F g):NumS F w v l:=by
 rcases h.2 with ⟨rfl,h0⟩ | ⟨g,cap,cur,rfl,hg,hh,hnc,hcp,hcs,htake⟩
 ·exact ⟨none,0,by rw [h0],by omega,by omega,fun h=>by omega⟩
 ·have hown:w.ownsRow B 3 1 (.slice (some ⟨g,0,none⟩) l.length cap) l.length (l.map (Value.int .i64)):=h
  refine ⟨_,cap,rfl,hnc,by unfold maxLen at hcp;omega,fun h=>⟨g,0,rfl,(hown.lt g rfl).2,hF g hg,fun j hj=>?_⟩⟩
  rw [Nat.zero_add,hown.cellAt j (by omega)]
  simp [hj]
theorem cloneZ_any (w:World) (v:Value) (l:List Int) (F:Nat→Prop) (h:NumS F w v l) (hl:l.length*8≤140737488355328):
  Calls Tryz.prog 117 #[v] w fun e w'=>∃v',e=.returned v'∧OwnZ w' w.heap.size v' l∧Below w.heap.size w w':=by
 obtain ⟨a,cap,rfl,_,_,hc⟩:=h
 cases a with
 | none=>
  have h0:l=[]:=by
   rcases Nat.eq_zero_or_pos l.length with h0 | h0
   ·exact List.length_eq_zero_iff.1 h0
   ·obtain ⟨g,o,hh,_⟩:=hc h0
    cases hh
  subst h0
  refine (Tryz.slices_Clone_int_nil _ _ w).mono ?_
  rintro e w' ⟨rfl,rfl⟩
  exact ⟨_,rfl,World.ownsRow_nil _ _ _ _,Below.refl _ _⟩
 | some ad=>
  rcases Nat.eq_zero_or_pos l.length with h0 | h0
  ·obtain rfl:l=[]:=List.length_eq_zero_iff.1 h0
   refine (Tryz.slices_Clone_int_zero ad cap w).mono ?_
   rintro e w' ⟨v',rfl,h1,_,h2⟩
   exact ⟨v',rfl,h1,h2⟩
  ·obtain ⟨g,o,hh,_,_,hcell⟩:=hc h0
   cases hh
   refine (Tryz.slices_Clone_int g o l.length cap l w (Nat.le_refl _) hl (fun j hj=>by rw [hcell j hj];simp [List.getD,hj])).mono ?_
   rintro e w' ⟨v',rfl,h1,_,h2⟩
   refine ⟨v',rfl,?_,h2⟩
   rw [List.take_length] at h1
   exact h1
theorem arcs_flat (l:List Au.Arc) (j:Nat) (u:Value) (h:(arcsV l)[j]?=some u):j/3<l.length∧u=(if j%3=0 then .int .i64 (l.getD (j/3) ⟨0,0,0⟩).lo else if j%3=1 then .int .i64 (l.getD (j/3) ⟨0,0,0⟩).hi else .int .i64 (l.getD (j/3) ⟨0,0,0⟩).to):=by
 have hj:j<(arcsV l).length:=(List.getElem?_eq_some_iff.1 h).1
 rw [arcsV_length] at hj
 have hk:j/3<l.length:=by omega
 obtain ⟨a1,a2,a3⟩:=arcsV_at l (j/3) hk
 have e:l.getD (j/3) ⟨0,0,0⟩=l[j/3]:=by simp [List.getD,hk]
 refine ⟨hk,?_⟩
 rw [e]
 have hm:j%3=0∨j%3=1∨j%3=2:=by omega
 rcases hm with hm | hm | hm
 ·rw [show j=j/3*3 by omega,a1] at h
  rw [if_pos hm]
  exact (Option.some.inj h).symm
 ·rw [show j=j/3*3+1 by omega,a2] at h
  rw [if_neg (by omega),if_pos hm]
  exact (Option.some.inj h).symm
 ·rw [show j=j/3*3+2 by omega,a3] at h
  rw [if_neg (by omega),if_neg (by omega)]
  exact (Option.some.inj h).symm
theorem arcs_news {w:World} {g o:Nat} {l:List Au.Arc} (hcell:∀j (_:j<l.length),w.cell? ⟨g,o+j*3,none⟩=some (.int .i64 l[j].lo)∧w.cell? ⟨g,o+j*3+1,none⟩=some (.int .i64 l[j].hi)∧w.cell? ⟨g,o+j*3+2,none⟩=some (.int .i64 l[j].to)):
  ∀j u,(arcsV l)[j]?=some u→w.cell? ((⟨g,o,none⟩:Addr).add j)=some u:=by
 intro j u h
 obtain ⟨hk,hu⟩:=arcs_flat l j u h
 have e:l.getD (j/3) ⟨0,0,0⟩=l[j/3]:=by simp [List.getD,hk]
 rw [e] at hu
 obtain ⟨b1,b2,b3⟩:=hcell (j/3) hk
 rw [Addr.add_lit]
 have hm:j%3=0∨j%3=1∨j%3=2:=by omega
 rcases hm with hm | hm | hm
 ·rw [if_pos hm] at hu
  rw [hu,←b1]
  congr 2
  omega
 ·rw [if_neg (by omega),if_pos hm] at hu
  rw [hu,←b2]
  congr 2
  omega
 ·rw [if_neg (by omega),if_neg (by omega)] at hu
  rw [hu,←b3]
  congr 2
  omega
theorem arcs_one (l:List Au.Arc):∀u∈arcsV l,u.oneCell'=true:=by
 intro u hu
 obtain ⟨x,_,hx⟩:=List.mem_flatMap.1 hu
 simp only [List.mem_cons,List.not_mem_nil,or_false] at hx
 rcases hx with rfl | rfl | rfl <;> rfl
theorem cloneA_any (w:World) (v:Value) (l:List Au.Arc) (F:Nat→Prop) (h:ArcS F w v l) (hl:l.length*24≤140737488355328):
  Calls Tryz.prog 116 #[v] w fun e w'=>∃v',e=.returned v'∧OwnA w' w.heap.size v' l∧Below w.heap.size w w':=by
 obtain ⟨a,cap,rfl,_,hcp,hc⟩:=h
 have q:=fun (w:World) (a:Option Addr) (n c n' c':Nat)=>Lib.run_eql_slice_nil (P:=Tryz.prog) w 59 71 a n c n' c' Tryz.underlying59
 cases a with
 | none=>
  have h0:l=[]:=by
   rcases Nat.eq_zero_or_pos l.length with h0 | h0
   ·exact List.length_eq_zero_iff.1 h0
   ·obtain ⟨g,o,hh,_⟩:=hc h0
    cases hh
  subst h0
  go_enter Tryz.func116,Tryz.ntmps116
  go_wp2_with fail
  go_ret
  exact ⟨_,rfl,World.ownsRow_nil _ _ _ _,Below.refl _ _⟩
 | some ad=>
  have hnews:∀j u,(arcsV l)[j]?=some u→w.cell? (ad.add j)=some u:=by
   rcases Nat.eq_zero_or_pos l.length with h0 | h0
   ·obtain rfl:l=[]:=List.length_eq_zero_iff.1 h0
    intro j u hu
    simp [arcsV] at hu
   ·obtain ⟨g,o,hh,_,_,hcell⟩:=hc h0
    cases hh
    exact arcs_news hcell
  have HNW:=lh hnews
  clear hnews hc
  obtain ⟨ii,hi,hz0,hz1,hz2⟩:=info_parts Tryz.infoA
  obtain ⟨n,hn⟩:∃n,n=l.length:=⟨_,rfl⟩
  have HN:=lh hn
  rw [←hn] at hl ⊢
  clear hn
  go_enter Tryz.func116,Tryz.ntmps116
  go_wp2_with (at_builtin;refine wpList_append_own _ rfl _ _ 59 rfl w.heap.size 71 ii _ 3 24 Tryz.underlying59 hi hz0 hz1 hz2 rfl (by decide) _ _ _ rfl (World.ownsRow_made w #[] 0 (Nat.le_refl _) (Nat.zero_le _) rfl) ad n cap (arcsV l) rfl (by rw [arcsV_length,HN.out]) (fun j u hu=>Lib.cell?_alloc_some _ (HNW.out j u hu)) (arcs_one l) (by unfold maxLen;omega) (by omega) (by simp) ?_;intro v' w1 hown hgrow hnil;have HOW:=lh hown;have HGR:=lh hgrow;clear hown hgrow hnil)
  go_wp2_with fail
  go_ret
  refine ⟨v',rfl,?_,((Below.refl _ w).alloc (Nat.le_refl _) _).grown HGR.out (by simp) (by intro k hk;have hk2:some w.heap.size=some k:=hk;injection hk2 with hk2;omega)⟩
  unfold OwnA
  rw [←HN.out]
  simpa using HOW.out
end
section
open Go.RowKit
theorem Tryz.infoLo:(Tryz.prog.info? 152).map (fun i=>(i.zero,i.size,i.bytes))=some (some (.agg #[.bool false,.slice none 0 0,.slice none 0 0]),3,56):=by kernel_rfl
abbrev LoV:=Bool × Value × Value
def losV (l:List LoV):List Value:=l.flatMap fun x=>[.bool x.1,x.2.1,x.2.2]
theorem losV_length (l:List LoV):(losV l).length=l.length*3:=by
 induction l with
 | nil=>rfl
 | cons x t ih=>
  show (_ :: _ :: _ :: losV t).length=_
  simp only [List.length_cons,ih]
  omega
theorem losV_snoc (l:List LoV) (x:LoV):losV l++[.bool x.1,x.2.1,x.2.2]=losV (l++[x]):=by simp [losV]
theorem losV_at (l:List LoV):∀i (h:i<l.length),(losV l)[i*3]?=some (.bool l[i].1)∧(losV l)[i*3+1]?=some l[i].2.1∧(losV l)[i*3+2]?=some l[i].2.2:=by
 induction l with
 | nil=>intro i h;cases h
 | cons x t ih=>
  intro i h
  cases i with
  | zero=>exact ⟨rfl,rfl,rfl⟩
  | succ i=>
   simp only [List.length_cons,Nat.add_lt_add_iff_right] at h
   have e:(i+1)*3=i*3+1+1+1:=by omega
   rw [e]
   exact ih i h
def cell3 (x:LoV) (j:Nat):Value:=if j%3=0 then .bool x.1 else if j%3=1 then x.2.1 else x.2.2
def losCell (l:List LoV) (j:Nat):Value:=cell3 (l.getD (j/3) (false,.slice none 0 0,.slice none 0 0)) j
theorem losCell_snoc (l:List LoV) (x:LoV) (j:Nat):(if j=l.length*3+2 then x.2.2 else if j=l.length*3+1 then x.2.1 else if j=l.length*3 then .bool x.1 else losCell l j)=losCell (l++[x]) j:=by
 unfold losCell cell3
 have hx:j/3=l.length→(l++[x]).getD (j/3) (false,.slice none 0 0,.slice none 0 0)=x:=fun e=>by rw [e];simp [List.getD]
 by_cases e2:j=l.length*3+2
 ·rw [if_pos e2,hx (by omega),if_neg (by omega),if_neg (by omega)]
 rw [if_neg e2]
 by_cases e1:j=l.length*3+1
 ·rw [if_pos e1,hx (by omega),if_neg (by omega),if_pos (by omega)]
 rw [if_neg e1]
 by_cases e0:j=l.length*3
 ·rw [if_pos e0,hx (by omega),if_pos (by omega)]
 rw [if_neg e0]
 have hg:(l++[x]).getD (j/3) (false,.slice none 0 0,.slice none 0 0)=l.getD (j/3) (false,.slice none 0 0,.slice none 0 0):=by
  by_cases h:j/3<l.length
  ·simp [List.getD,List.getElem?_append_left h]
  ·have h2:l.length<j/3:=by omega
   simp [List.getD,List.getElem?_eq_none (show l.length≤j/3 by omega),List.getElem?_eq_none (show (l++[x]).length≤j/3 by simp;omega)]
 rw [hg]
theorem losCell_at (l:List LoV) (j:Nat) (h:j<(losV l).length):(losV l)[j]?=some (losCell l j):=by
 rw [losV_length] at h
 have hk:j/3<l.length:=by omega
 obtain ⟨a1,a2,a3⟩:=losV_at l (j/3) hk
 have e:l.getD (j/3) (false,.slice none 0 0,.slice none 0 0)=l[j/3]:=by simp [List.getD,hk]
 unfold losCell cell3
 rw [e]
 have hm:j%3=0∨j%3=1∨j%3=2:=by omega
 rcases hm with hm | hm | hm
 ·rw [if_pos hm,←a1];congr 1;omega
 ·rw [if_neg (by omega),if_pos hm,←a2];congr 1;omega
 ·rw [if_neg (by omega),if_neg (by omega),←a3];congr 1;omega
structure LoEach (w:World) (B:Nat) (vals:List LoV) (L:List Au.Lo):Prop where
 len:vals.length=L.length
 each:∀j (h:j<vals.length) (h2:j<L.length),vals[j].1=L[j].fin∧OwnA w B vals[j].2.1 L[j].arcs∧OwnZ w B vals[j].2.2 L[j].free
 apart:∀i j (hi:i<vals.length) (hj:j<vals.length),i≠j→∀g,vals[i].2.1.ownBlock=some g→vals[j].2.1.ownBlock≠some g
theorem LoEach.nil (w:World) (B:Nat):LoEach w B [] []:=⟨rfl,fun j h=>by simp at h,fun i j h=>by simp at h⟩
theorem LoEach.keep {w w':World} {B:Nat} {vals:List LoV} {L:List Au.Lo} (h:LoEach w B vals L) (e:∀(g:Nat) (c:Array Value) (t:TypeId) (fz:Nat × Nat),w.heap[g]?=some (Obj.cells c t fz)→(t=71∨t=3)→B≤g→w'.heap[g]?=w.heap[g]?):LoEach w' B vals L:=by
 refine ⟨h.len,fun j a b=>?_,h.apart⟩
 obtain ⟨h1,h2,h3⟩:=h.each j a b
 refine ⟨h1,h2.keep fun k hk=>?_,ownsRow_keep h3 fun k hk=>?_⟩
 ·obtain ⟨c,fz,hc⟩:=h2.kind k hk
  exact e k c _ fz hc (.inl rfl) (h2.lt k hk).1
 ·obtain ⟨hb,_,c,fz,hc⟩:=h3.kind k hk
  exact e k c _ fz hc (.inr rfl) hb
theorem LoEach.below {w w':World} {B:Nat} {vals:List LoV} {L:List Au.Lo} (h:LoEach w B vals L) (hb:Below w.heap.size w w'):LoEach w' B vals L:=h.keep fun _ _ _ _ hg _ _=>hb.block _ (Array.getElem?_eq_some_iff.1 hg).1
theorem LoEach.snoc {w w':World} {B:Nat} {vals:List LoV} {L:List Au.Lo} (h:LoEach w B vals L) (hb:Below w.heap.size w w') (hB:B≤w.heap.size) {va vf:Value} {s:Au.Lo} (ha:OwnA w' w.heap.size va s.arcs) (hf:OwnZ w' w.heap.size vf s.free):LoEach w' B (vals++[(s.fin,va,vf)]) (L++[s]):=by
 have h':=h.below hb
 have hl:=h.len
 refine ⟨by simp [hl],fun j a b=>?_,fun i j hi hj hne g hg hgj=>?_⟩
 ·by_cases e:j<vals.length
  ·rw [List.getElem_append_left e,List.getElem_append_left (by omega)]
   exact h'.each j e (by omega)
  ·have e':j=vals.length:=by simp at a;omega
   subst e'
   have e2:(L++[s])[vals.length]=s:=by simp only [hl,List.getElem_append_right (Nat.le_refl _),Nat.sub_self,List.getElem_cons_zero]
   rw [e2]
   simp only [List.getElem_append_right (Nat.le_refl _),Nat.sub_self,List.getElem_cons_zero]
   exact ⟨trivial,ownsRow_base ha hB,ownsRow_base hf hB⟩
 ·have old:∀k (hk:k<vals.length) g,vals[k].2.1.ownBlock=some g→g<w.heap.size:=fun k hk g hg=>((h.each k hk (by omega)).2.1.lt g hg).2
  have new:∀g,va.ownBlock=some g→w.heap.size≤g:=fun g hg=>(ha.lt g hg).1
  by_cases e1:i<vals.length
  ·rw [List.getElem_append_left e1] at hg
   by_cases e2:j<vals.length
   ·rw [List.getElem_append_left e2] at hgj
    exact h.apart i j e1 e2 hne g hg hgj
   ·have e':j=vals.length:=by simp at hj;omega
    subst e'
    simp at hgj
    have:=old i e1 g hg
    have:=new g hgj
    omega
  ·have e':i=vals.length:=by simp at hi;omega
   subst e'
   simp at hg
   have e2:j<vals.length:=by simp at hj;omega
   rw [List.getElem_append_left e2] at hgj
   have:=old j e2 g hgj
   have:=new g hg
   omega
structure LoO (w:World) (B:Nat) (v:Value) (vals:List LoV) (L:List Au.Lo):Prop where
 own:w.ownsRow B 152 3 v L.length (losV vals)
 each:LoEach w B vals L
theorem own_of_rowIs {w:World} {B G n:Nat} {vals:List LoV} (h:w.rowIs G 152 (n*3) (losCell vals)) (hl:vals.length=n) (hB:B≤G) (hn:n≤1000):w.ownsRow B 152 3 (.slice (some ⟨G,0,none⟩) n n) n (losV vals):=by
 obtain ⟨c,h1,h2,h3⟩:=h
 refine ⟨by rw [losV_length,hl],.inr ⟨G,n,c,rfl,hB,h1,Nat.le_refl _,by unfold maxLen;omega,h2,?_⟩⟩
 apply List.ext_getElem?
 intro j
 by_cases hj:j<n*3
 ·rw [List.getElem?_take,if_pos hj,Array.getElem?_toList,h3 j hj,losCell_at vals j (by rw [losV_length,hl];exact hj)]
 ·rw [List.getElem?_eq_none (by rw [List.length_take];omega),List.getElem?_eq_none (by rw [losV_length,hl];omega)]
theorem makeLo (n:Nat) (hn:n≤1000) (w:World):
  (Instr.makeSlice 148 (.int .i64 (n:Int)) (.int .i64 (n:Int))).run Tryz.prog w=.ok (.slice (some ⟨w.heap.size,0,none⟩) n n) (w.alloc (.cells (madeCells #[.bool false,.slice none 0 0,.slice none 0 0] (n*3)) 152)):=by
 obtain ⟨ii,hi,hz0,hz1,hz2⟩:=info_parts Tryz.infoLo
 have h:=run_make (P:=Tryz.prog) w 148 152 ii _ Tryz.underlying148 hi hz0 .i64 .i64 (n:Int) (n:Int) (by omega) (by omega) (by rw [hz2];omega) (by omega)
 rw [hz1,Int.toNat_natCast] at h
 exact h
theorem madeLo (w:World) (n:Nat):(w.alloc (.cells (madeCells #[.bool false,.slice none 0 0,.slice none 0 0] (n*3)) 152)).rowIs w.heap.size 152 (n*3) (losCell []):=by
 refine ⟨_,Go.Deep.blk_alloc_new _ _,by rw [size_madeCells],fun i hi=>?_⟩
 have:i%3=0∨i%3=1∨i%3=2:=by omega
 rcases this with h | h | h <;> simp [madeCells,losCell,cell3,h,hi]
end
section
open Go.RowKit
theorem copyOf_any (F:Nat→Prop) (w:World) (v:Value) (L:List Au.Lo) (h:LoS F w v L) (hL:L.length≤1000) (hs:∀s∈L,s.arcs.length*24≤140737488355328∧s.free.length*8≤140737488355328):
  Calls Tryz.prog 98 #[v] w fun e w'=>∃v' vals,e=.returned v'∧LoO w' w.heap.size v' vals L∧Below w.heap.size w w':=by
 obtain ⟨a,cap,rfl,_,hcp,hc⟩:=h
 have HC:=lh hc
 have HS:=lh hs
 obtain ⟨n,hn⟩:∃n,n=L.length:=⟨_,rfl⟩
 have HN:=lh hn
 rw [←hn] at hL ⊢
 have hmk:=makeLo n hL
 clear hc hs hn
 go_enter Tryz.func98,Tryz.ntmps98
 go_wp2_with fail
 have HR0:Hid ((w.alloc (.cells (madeCells #[.bool false,.slice none 0 0,.slice none 0 0] (n*3)) 152)).rowIs w.heap.size 152 (n*3) (losCell [])):=madeLo w n
 have HB0:Hid (Below w.heap.size w (w.alloc (.cells (madeCells #[.bool false,.slice none 0 0,.slice none 0 0] (n*3)) 152))):=(Below.refl _ _).alloc (Nat.le_refl _) _
 obtain ⟨G,hG⟩:∃G,G=w.heap.size:=⟨_,rfl⟩
 have HG:Hid (G=w.heap.size):=hG
 have HGB:Hid (w.heap.size≤G):=Nat.le_of_eq hG.symm
 rw [←hG] at HR0
 rw [show (Value.slice (some ⟨w.heap.size,0,none⟩) n n)=Value.slice (some ⟨G,0,none⟩) n n by rw [hG]]
 clear hmk hG
 generalize w.alloc (.cells (madeCells #[.bool false,.slice none 0 0,.slice none 0 0] (n*3)) 152)=w1 at *
 go_loopg [11] n (fun g i wx=>∃(k:Nat) (vals:List LoV),k≤n∧g=n-k∧i=.int .i64 k∧Hid (wx.rowIs G 152 (n*3) (losCell vals))∧Hid (LoEach wx w.heap.size vals (L.take k))∧Hid (Below w.heap.size w wx))
 case atStart=>exact ⟨0,[],Nat.zero_le _,rfl,rfl,HR0,LoEach.nil _ _,HB0⟩
 case round=>
  obtain ⟨k,vals,hk,rfl,rfl,hrow,heach,hbel⟩:=hrel
  by_cases hkn:k<n
  ·have i1:(k:Int)<(n:Int):=by omega
   have hkL:k<L.length:=by rw [←HN.out];exact hkn
   obtain ⟨gs,o,rfl,hgs,_,hcell⟩:=HC.out (by omega)
   obtain ⟨t1,⟨va,t2,t3⟩,vf,t4,t5⟩:=hcell k hkL
   have hb:=hbel.out
   have c1:wr.cell? ⟨gs,o+k*3,none⟩=some (.bool L[k].fin):=(hb.cell (p:=⟨gs,o+k*3,none⟩) hgs).trans t1
   have c2:wr.cell? ⟨gs,o+k*3+1,none⟩=some va:=(hb.cell (p:=⟨gs,o+k*3+1,none⟩) hgs).trans t2
   have c3:wr.cell? ⟨gs,o+k*3+2,none⟩=some vf:=(hb.cell (p:=⟨gs,o+k*3+2,none⟩) hgs).trans t4
   have HS1:=lh (HS.out L[k] (List.getElem_mem hkL))
   have hvl:vals.length=k:=by
    have:=heach.out.len
    rw [List.length_take] at this
    omega
   have HVL:=lh hvl
   have HTK:Hid (L.take (k+1)=L.take k++[L[k]]):=List.take_succ_eq_append_getElem hkL
   have HA3:Hid (ArcS F wr va L[k].arcs):=t3.keep hb.size fun g _ hg=>hb.block g hg
   have HF3:Hid (NumS F wr vf L[k].free):=t5.keep hb.size fun g _ hg=>hb.block g hg
   clear hcell t1 t2 t3 t4 t5 hvl hb
   generalize L[k]=s at *
   obtain ⟨fin,arcs,free⟩:=s
   dsimp only at *
   obtain ⟨aa,ca,hva⟩:∃aa ca,va=.slice aa arcs.length ca:=by
    obtain ⟨aa,ca,h1,_⟩:=HA3.out
    exact ⟨aa,ca,h1⟩
   obtain ⟨af,cf,hvf⟩:∃af cf,vf=.slice af free.length cf:=by
    obtain ⟨af,cf,h1,_⟩:=HF3.out
    exact ⟨af,cf,h1⟩
   subst hva hvf
   obtain ⟨na,hna⟩:∃na,na=arcs.length:=⟨_,rfl⟩
   obtain ⟨nf,hnf⟩:∃nf,nf=free.length:=⟨_,rfl⟩
   rw [←hna] at c2 HA3
   rw [←hnf] at c3 HF3
   clear hna hnf
   have HAL:Hid (∀o,LoEach (wr.alloc o) w.heap.size vals (L.take k)):=fun o=>heach.out.below ((Below.refl _ _).alloc (Nat.le_refl _) _)
   have HNW:Hid (wr.heap.size<(wr.alloc (.cells #[.bool fin,.slice aa na ca,.slice af nf cf] 152)).heap.size):=by show _<_;simp
   have HBK:Hid ((wr.alloc (.cells #[.bool fin,.slice aa na ca,.slice af nf cf] 152)).heap[wr.heap.size]?=some (.cells #[.bool fin,.slice aa na ca,.slice af nf cf] 152 (0,0))):=Go.Deep.blk_alloc_new _ _
   have HBL:Hid (Below w.heap.size w (wr.alloc (.cells #[.bool fin,.slice aa na ca,.slice af nf cf] 152))):=hbel.out.alloc hbel.out.size _
   have HRW:Hid ((wr.alloc (.cells #[.bool fin,.slice aa na ca,.slice af nf cf] 152)).rowIs G 152 (n*3) (losCell vals)):=hrow.out.alloc _
   have HE5:=lh (HAL.out (.cells #[.bool fin,.slice aa na ca,.slice af nf cf] 152))
   have HA5:Hid (ArcS F (wr.alloc (.cells #[.bool fin,.slice aa na ca,.slice af nf cf] 152)) (.slice aa na ca) arcs):=HA3.out.keep (by simp) fun g _ hg=>Go.Deep.blk_alloc_lt _ _ _ hg
   have HF5:Hid (NumS F (wr.alloc (.cells #[.bool fin,.slice aa na ca,.slice af nf cf] 152)) (.slice af nf cf) free):=HF3.out.keep (by simp) fun g _ hg=>Go.Deep.blk_alloc_lt _ _ _ hg
   have HGL:Hid (G<wr.heap.size):=hrow.out.lt
   go_wp2_with fail
   clear c1 c2 c3 HAL HA3 HF3
   obtain ⟨b5,hb5⟩:∃b,b=wr.heap.size:=⟨_,rfl⟩
   rw [←hb5] at HNW HBK HGL ⊢
   clear hb5
   generalize wr.alloc (.cells #[.bool fin,.slice aa na ca,.slice af nf cf] 152)=w5 at *
   have HCA:Hid (∀W,Below w5.heap.size w5 W→Calls Tryz.prog 116 #[.slice aa na ca] W fun e w'=>∃a6 m6 c6,e=.returned (.slice a6 m6 c6)∧OwnA w' W.heap.size (.slice a6 m6 c6) arcs∧Below W.heap.size W w'):=fun W hb=>(cloneA_any W _ arcs F (HA5.out.keep hb.size fun g _ hg=>hb.block g hg) HS1.out.1).mono fun e w' ⟨v',h1,h2,h3⟩=>by
    obtain ⟨a6,c6,h4,_⟩:=h2.opened
    subst h4
    exact ⟨a6,_,c6,h1,h2,h3⟩
   have HCZ:Hid (∀W,Below w5.heap.size w5 W→Calls Tryz.prog 117 #[.slice af nf cf] W fun e w'=>∃a7 m7 c7,e=.returned (.slice a7 m7 c7)∧OwnZ w' W.heap.size (.slice a7 m7 c7) free∧Below W.heap.size W w'):=fun W hb=>(cloneZ_any W _ free F (HF5.out.keep hb.size fun g _ hg=>hb.block g hg) HS1.out.2).mono fun e w' ⟨v',h1,h2,h3⟩=>by
    obtain ⟨a7,c7,h4,_⟩:=h2.nums (fun _=>True) fun _ _=>trivial
    subst h4
    exact ⟨a7,_,c7,h1,h2,h3⟩
   have hK0:∀W:World,W.heap[b5]?=w5.heap[b5]?→W.cell? ⟨b5,0,none⟩=some (.bool fin)∧W.cell? ⟨b5,1,none⟩=some (.slice aa na ca)∧W.cell? ⟨b5,2,none⟩=some (.slice af nf cf):=fun W e=>by
    rw [HBK.out] at e
    exact ⟨by simp [World.cell?,e],by simp [World.cell?,e],by simp [World.cell?,e]⟩
   have HK:Hid (∀W,Below w5.heap.size w5 W→W.cell? ⟨b5,0,none⟩=some (.bool fin)∧W.cell? ⟨b5,1,none⟩=some (.slice aa na ca)∧W.cell? ⟨b5,2,none⟩=some (.slice af nf cf)):=fun W hb=>hK0 W (hb.block b5 HNW.out)
   have HKS:Hid (∀W u1 u2 u3,Below w5.heap.size w5 W→(((W.setCell ⟨G,k*3,none⟩ u1).setCell ⟨G,k*3+1,none⟩ u2).setCell ⟨G,k*3+2,none⟩ u3).cell? ⟨b5,0,none⟩=some (.bool fin)∧(((W.setCell ⟨G,k*3,none⟩ u1).setCell ⟨G,k*3+1,none⟩ u2).setCell ⟨G,k*3+2,none⟩ u3).cell? ⟨b5,1,none⟩=some (.slice aa na ca)∧(((W.setCell ⟨G,k*3,none⟩ u1).setCell ⟨G,k*3+1,none⟩ u2).setCell ⟨G,k*3+2,none⟩ u3).cell? ⟨b5,2,none⟩=some (.slice af nf cf)):=fun W u1 u2 u3 hb=>hK0 _ (by
    have hne:b5≠G:=by have:=HGL.out;omega
    rw [Go.Deep.blk_setCell_other _ _ _ _ hne,Go.Deep.blk_setCell_other _ _ _ _ hne,Go.Deep.blk_setCell_other _ _ _ _ hne]
    exact hb.block b5 HNW.out)
   have HRX:Hid (∀W,Below w5.heap.size w5 W→W.rowIs G 152 (n*3) (losCell vals)):=fun W hb=>HRW.out.of_block (hb.block G HRW.out.lt)
   have hq0:Below w5.heap.size w5 w5.drew:=(Below.refl _ _).drew
   clear hK0
   go_region_held3 (fun W=>W.cell? ⟨b5,0,none⟩=some (.bool fin)∧W.cell? ⟨b5,1,none⟩=some (.slice aa na ca)∧W.cell? ⟨b5,2,none⟩=some (.slice af nf cf)) (first | exact HK.out _ (by assumption) | exact HKS.out _ _ _ _ (by assumption)) (first | (go_at_call 116;refine (HCA.out _ (by assumption)).mono ?_;rintro e w6 ⟨a6,m6,c6,rfl,ho6,hb6⟩;have HO6:=lh ho6;have HB6:=lh hb6;have hq6:Below w5.heap.size w5 w6:=hq0.trans hb6;clear ho6 hb6) | (go_at_call 117;refine (HCZ.out _ (by assumption)).mono ?_;rintro e w7 ⟨a7,m7,c7,rfl,ho7,hb7⟩;have HO7:=lh ho7;have HB7:=lh hb7;have hq7:Below w5.heap.size w5 w7:=hq6.trans (hb7.mono hq6.size);have HR7:=lh (HRX.out w7 hq7);have y1:=HR7.out.cell (i:=k*3) (by omega);have y2:=HR7.out.cell (i:=k*3+1) (by omega);have y3:=HR7.out.cell (i:=k*3+2) (by omega);have z1:=HR7.out.frozen (k*3);have z2:=HR7.out.frozen (k*3+1);have z3:=HR7.out.frozen (k*3+2);clear ho7 hb7))
   clear y1 y2 y3 z1 z2 z3
   have HA7:Hid (OwnA w7 w5.heap.size (.slice a6 m6 c6) arcs):=by
    have h6:OwnA w6 w5.heap.size (.slice a6 m6 c6) arcs:=HO6.out
    exact h6.keep fun g hg=>HB7.out.block g (h6.lt g hg).2
   have HZ7:Hid (OwnZ w7 w5.heap.size (.slice a7 m7 c7) free):=ownsRow_base HO7.out (by have:=hq6.size;exact this)
   have HE7:Hid (LoEach w7 w.heap.size (vals++[(fin,.slice a6 m6 c6,.slice a7 m7 c7)]) (L.take (k+1))):=by
    show LoEach _ _ _ _
    rw [HTK.out]
    exact HE5.out.snoc hq7 HBL.out.size (s:=⟨fin,arcs,free⟩) HA7.out HZ7.out
   have far:∀g,g≠G→(((w7.setCell ⟨G,k*3,none⟩ (.bool fin)).setCell ⟨G,k*3+1,none⟩ (.slice a6 m6 c6)).setCell ⟨G,k*3+2,none⟩ (.slice a7 m7 c7)).heap[g]?=w7.heap[g]?:=fun g hg=>by
    rw [Go.Deep.blk_setCell_other _ _ _ _ hg,Go.Deep.blk_setCell_other _ _ _ _ hg,Go.Deep.blk_setCell_other _ _ _ _ hg]
   have R8:Hid ((((w7.setCell ⟨G,k*3,none⟩ (.bool fin)).setCell ⟨G,k*3+1,none⟩ (.slice a6 m6 c6)).setCell ⟨G,k*3+2,none⟩ (.slice a7 m7 c7)).rowIs G 152 (n*3) (losCell (vals++[(fin,.slice a6 m6 c6,.slice a7 m7 c7)]))):=
    (((HR7.out.set (k*3) (.bool fin)).set (k*3+1) (.slice a6 m6 c6)).set (k*3+2) (.slice a7 m7 c7)).congr fun j _=>by
     have:=losCell_snoc vals (fin,.slice a6 m6 c6,.slice a7 m7 c7) j
     rw [HVL.out] at this
     exact this
   have E8:Hid (LoEach (((w7.setCell ⟨G,k*3,none⟩ (.bool fin)).setCell ⟨G,k*3+1,none⟩ (.slice a6 m6 c6)).setCell ⟨G,k*3+2,none⟩ (.slice a7 m7 c7)) w.heap.size (vals++[(fin,.slice a6 m6 c6,.slice a7 m7 c7)]) (L.take (k+1))):=
    HE7.out.keep fun g c t fz hg ht _=>far g (by
     rintro rfl
     obtain ⟨c',hc',_⟩:=id HR7.out
     rw [hg] at hc'
     injection hc' with hc'
     injection hc' with _ h2
     rcases ht with rfl | rfl <;> exact absurd h2 (by decide))
   have B8:Hid (Below w.heap.size w (((w7.setCell ⟨G,k*3,none⟩ (.bool fin)).setCell ⟨G,k*3+1,none⟩ (.slice a6 m6 c6)).setCell ⟨G,k*3+2,none⟩ (.slice a7 m7 c7))):=
    (((HBL.out.trans (hq7.mono HBL.out.size)).setCell HGB.out _).setCell HGB.out _).setCell HGB.out _
   clear far hq0 hq6 hq7
   generalize (((w7.setCell ⟨G,k*3,none⟩ (.bool fin)).setCell ⟨G,k*3+1,none⟩ (.slice a6 m6 c6)).setCell ⟨G,k*3+2,none⟩ (.slice a7 m7 c7))=w8 at *
   go_wp2_with fail
   go_roundg (n-(k+1))
   case rel=>exact ⟨k+1,_,by omega,rfl,by go_num,R8,E8,B8⟩
   case measure=>omega
  ·obtain rfl:k=n:=by omega
   have e:L.take k=L:=List.take_of_length_le (by rw [←HN.out];exact Nat.le_refl _)
   rw [e] at heach
   clear e
   go_wp2_with fail
   go_ret
   refine ⟨_,vals,rfl,⟨?_,heach.out⟩,hbel.out⟩
   rw [←HN.out]
   exact own_of_rowIs hrow.out (by rw [heach.out.len,HN.out]) HGB.out hL
end
section
open Go.RowKit
namespace Ut
def encS (l:List Int):List UInt8:=if allW l=true then enc l else []
def encE (l:List Int):Int:=if allW l=true then 0 else 1
theorem encS_yes {l:List Int} (h:allW l=true):encS l=enc l:=if_pos h
theorem encE_yes {l:List Int} (h:allW l=true):encE l=0:=if_pos h
theorem encS_no {l:List Int} (h:allW l=false):encS l=[]:=if_neg (by rw [h];exact Bool.false_ne_true)
theorem encE_no {l:List Int} (h:allW l=false):encE l=1:=if_neg (by rw [h];exact Bool.false_ne_true)
theorem allW_step {l:List Int} {k:Nat} (h:k<l.length):allW (l.take (k+1))=(allW (l.take k)&&whole l[k]):=by
 rw [List.take_succ_eq_append_getElem h,allW_append]
 simp [allW]
theorem enc_step {l:List Int} {k:Nat} (h:k<l.length):enc (l.take (k+1))=enc (l.take k)++Lib.encodeRune l[k]:=by
 rw [List.take_succ_eq_append_getElem h,enc_snoc]
theorem allW_not {l:List Int} {k:Nat} (h:k<l.length) (hk:whole l[k]=false):allW l=false:=by
 rw [←Bool.not_eq_true,allW_iff]
 intro ha
 have:=ha l[k] (List.getElem_mem h)
 rw [hk] at this
 cases this
theorem bytes_rune (c:Int):bytesV5 (Lib.encodeRune c)=Lib.runeCells c:=by
 unfold bytesV5 Lib.encodeRune Lib.runeCells
 rw [List.map_map]
 refine List.map_congr_left fun x hx=>?_
 have hb:=Lib.encodeRuneZ_byte c x hx
 show Value.int .u8 (((x.toNat.toUInt8).toNat:Nat):Int)=_
 rw [byteI x hb.1 hb.2]
end Ut
theorem ret_si {s1 s2:ByteArray} {a b:Int} (h1:s1=s2) (h2:a=b):Ending.returned (.tuple #[.string s1,.int .i64 a])=Ending.returned (.tuple #[.string s2,.int .i64 b]):=by rw [h1,h2]
theorem madeB_own (w:World) (B n:Nat) (hB:B≤w.heap.size) (hn:n≤1099511627776*16):
  OwnB5 (w.alloc (.cells (madeCells #[.int .u8 0] n) 5)) B (.slice (some ⟨w.heap.size,0,none⟩) 0 n) []:=
 World.ownsRow_made w (madeCells #[.int .u8 0] n) n hB (by unfold maxLen;omega) (by rw [size_madeCells,Nat.mul_one])
theorem makeB (n:Nat) (hn:n≤17592186044416) (w:World):
  (Instr.makeSlice 102 (.int .i64 0) (.int .i64 (n:Int))).run Tryz.prog w=.ok (.slice (some ⟨w.heap.size,0,none⟩) 0 n) (w.alloc (.cells (madeCells #[.int .u8 0] n) 5)):=by
 obtain ⟨ii,hi,hz0,hz1,hz2⟩:=info_parts Tryz.infoB5
 have h:=run_make (P:=Tryz.prog) w 102 5 ii (.int .u8 0) Tryz.underlying102 hi hz0 .i64 .i64 0 (n:Int) (by omega) (by omega) (by rw [hz2];omega) (by omega)
 rw [hz1,Int.toNat_natCast,Nat.mul_one] at h
 exact h
theorem appendRune_any (w:World) (B:Nat) (hB:B≤w.heap.size) (v:Value) (l:List UInt8) (c:Int) (h:OwnB5 w B v l) (hc:0≤c∧c≤1114111) (hl:l.length+4≤140737488355328):
  Calls Tryz.prog 136 #[v,.int .i32 c] w fun e w'=>∃v',e=.returned v'∧OwnB5 w' B v' (l++Lib.encodeRune c)∧Below B w w':=by
 have hown:w.ownsRow B 5 1 v l.length (bytesV5 l):=h
 refine (Tryz.utf8_AppendRune_plain B v l.length (bytesV5 l) c (by omega) (by omega) w hown hl hB).mono ?_
 rintro e w' ⟨v',rfl,h1,o,h2⟩
 refine ⟨v',rfl,?_,((Below.refl B w).alloc hB o).grown h2 (by simp;omega) (fun j hj=>(hown.lt j hj).1)⟩
 have hr:(Lib.runeCells c).length=(Lib.encodeRune c).length:=by rw [←Ut.bytes_rune,bytesV_length5]
 unfold OwnB5
 rw [List.length_append,←hr]
 have e:bytesV5 (l++Lib.encodeRune c)=bytesV5 l++Lib.runeCells c:=by rw [←Ut.bytes_rune];simp [bytesV5]
 rw [e]
 exact h1
def EncPost (w:World) (l:List Int) (e:Ending) (w':World):Prop:=
 e=.returned (.tuple #[.string ⟨(Ut.encS l).toArray⟩,.int .i64 (Ut.encE l)])∧Below w.heap.size w w'
theorem encode_any (w:World) (v:Value) (xs:List Int) (hv:IntS w v xs) (hx:xs.length≤17592186044416):
  Calls Tryz.prog 131 #[v] w (EncPost w xs):=by
 obtain ⟨a,cap,rfl,_,_,hv⟩:=hv
 have HV:=lh hv
 clear hv
 obtain ⟨n,hn⟩:∃n,n=xs.length:=⟨_,rfl⟩
 have HN:=lh hn
 rw [←hn] at hx ⊢
 clear hn
 have hmk:=makeB n hx
 go_enter Tryz.func131,Tryz.ntmps131
 go_wp2_with fail
 have HO:Hid (OwnB5 (w.alloc (.cells (madeCells #[.int .u8 0] n) 5)) w.heap.size (.slice (some ⟨w.heap.size,0,none⟩) 0 n) []):=madeB_own w w.heap.size n (Nat.le_refl _) (by omega)
 have HB:Hid (Below w.heap.size w (w.alloc (.cells (madeCells #[.int .u8 0] n) 5))):=(Below.refl _ _).alloc (Nat.le_refl _) _
 generalize w.alloc (.cells (madeCells #[.int .u8 0] n) 5)=w1 at *
 clear hmk
 go_loopg [4,12] n (fun g o i wx=>∃k:Nat,k≤n∧g=n-k∧i=.int .i64 k∧Hid (Ut.allW (xs.take k)=true)∧OwnB5 wx w.heap.size o (Ut.enc (xs.take k))∧Below w.heap.size w wx)
 case atStart=>exact ⟨0,Nat.zero_le _,rfl,rfl,rfl,HO.out,HB.out⟩
 case round=>
  obtain ⟨k,hk,rfl,rfl,hA,hown,hbel⟩:=hrel
  by_cases hkn:k<n
  ·have i1:(k:Int)<(n:Int):=by omega
   have kx:k<xs.length:=by rw [←HN.out];exact hkn
   obtain ⟨g,o,rfl,hg,hcu⟩:=HV.out (by omega)
   have c1:wr.cell? ⟨g,o+k,none⟩=some (.int .i64 xs[k]):=(hbel.cell (p:=⟨g,o+k,none⟩) hg).trans (hcu k kx)
   have hs1:=Ut.allW_step kx
   have hs2:=Ut.enc_step kx
   have hs3:=@Ut.allW_not xs k kx
   have hl4:(Ut.enc (xs.take k)).length+4≤140737488355328:=by
    have:=(Ut.enc_length (xs.take k)).2
    have h2:(xs.take k).length≤k:=List.length_take_le _ _
    omega
   have hw:=lh (whole_any xs[k] wr)
   have har:=lh (fun (hc:0≤xs[k]∧xs[k]≤1114111)=>appendRune_any wr w.heap.size hbel.size _ _ xs[k] hown hc hl4)
   have hwi:=@Ut.whole_iff xs[k]
   rw [←hs2] at har
   clear hcu hs2 hl4
   generalize xs[k]=c at *
   cases hwc:Ut.whole c
   ·rw [hwc] at hw
    have hno:=lh (hs3 hwc)
    have HBE:=lh hbel
    clear hs1 hs3 hwi hown hbel har hA
    go_wp2_with fail
    refine hw.out.mono ?_
    rintro e w2 ⟨rfl,rfl⟩
    go_wp2_with fail
    go_ret2
    exact ⟨ret_si (by rw [Ut.encS_no hno.out]) (by rw [Ut.encE_no hno.out]),HBE.out⟩
   ·rw [hwc] at hw hs1
    have hc:=hwi.1 hwc
    have hA2:Hid (Ut.allW (xs.take (k+1))=true):=by show _=_;rw [hs1,hA.out];rfl
    have har2:=lh (har.out (by omega))
    have HBE:=lh hbel
    clear hs1 hs3 hwi hown hbel har hA
    go_wp2_with fail
    refine hw.out.mono ?_
    rintro e w2 ⟨rfl,rfl⟩
    go_wp2_with fail
    refine har2.out.mono ?_
    rintro e w2 ⟨v2,rfl,hown2,hb2⟩
    have HO2:=lh hown2
    have HB2:Hid (Below w.heap.size w w2):=HBE.out.trans hb2
    clear hown2 hb2
    go_wp2_with fail
    go_roundg (n-(k+1))
    case rel=>exact ⟨k+1,by omega,rfl,by go_num,hA2,HO2.out,HB2.out⟩
    case measure=>omega
  ·obtain rfl:k=n:=by omega
   have hcv:=own_conv5 hown
   have hfull:xs.take k=xs:=List.take_of_length_le (by rw [←HN.out];exact Nat.le_refl _)
   rw [hfull] at hcv hA
   have HBE:=lh hbel
   clear hown hbel hfull
   obtain ⟨S,hS⟩:∃S,S=Ut.enc xs:=⟨_,rfl⟩
   have HS:=lh hS
   rw [←hS] at hcv
   clear hS
   go_wp2_with fail
   go_ret2
   exact ⟨ret_si (by rw [HS.out,Ut.encS_yes hA.out]) (by rw [Ut.encE_yes hA.out]),HBE.out⟩
end
section
open Go.RowKit
namespace Sp
def cellAt (r:List (Int × Int)) (j:Nat):Int:=if j%2=0 then (r.getD (j/2) (0,0)).1 else (r.getD (j/2) (0,0)).2
theorem cellAt_lo (r:List (Int × Int)) (k:Nat) (h:k<r.length):cellAt r (k*2)=r[k].1:=by
 unfold cellAt
 rw [if_pos (by omega),show k*2/2=k by omega]
 simp [List.getD,h]
theorem cellAt_hi (r:List (Int × Int)) (k:Nat) (h:k<r.length):cellAt r (k*2+1)=r[k].2:=by
 unfold cellAt
 rw [if_neg (by omega),show (k*2+1)/2=k by omega]
 simp [List.getD,h]
def cellUpto (r:List (Int × Int)) (k j:Nat):Int:=if j<k*2 then cellAt r j else 0
theorem cellUpto_set (r:List (Int × Int)) (k:Nat) (h:k<r.length) (j:Nat):(if j=k*2+1 then Value.int .i64 r[k].2 else if j=k*2 then Value.int .i64 r[k].1 else .int .i64 (cellUpto r k j))=.int .i64 (cellUpto r (k+1) j):=by
 have h1:=cellAt_lo r k h
 have h2:=cellAt_hi r k h
 unfold cellUpto
 by_cases e1:j=k*2+1
 ·subst e1
  rw [if_pos rfl,if_pos (by omega),h2]
 ·rw [if_neg e1]
  by_cases e2:j=k*2
  ·subst e2
   rw [if_pos rfl,if_pos (by omega),h1]
  ·rw [if_neg e2]
   by_cases e3:j<k*2
   ·rw [if_pos e3,if_pos (by omega)]
   ·rw [if_neg e3,if_neg (by omega)]
theorem good_whole {f l:Int} {tails t:Nat} {a b:Int} (hk:InCut f l tails) (h:Good f l tails t a b):Ut.whole a=true∧Ut.whole b=true∧(Lib.encodeRuneZ a).length=tails+1∧(Lib.encodeRuneZ b).length=tails+1:=by
 have h1:=h.lo
 have h2:=h.hi
 have h3:=h.le
 rw [Ut.whole_iff,Ut.whole_iff]
 cases hk
 ·rw [Lib.encodeRuneZ_one (by omega) (by omega),Lib.encodeRuneZ_one (by omega) (by omega)]
  exact ⟨by omega,by omega,rfl,rfl⟩
 ·rw [Lib.encodeRuneZ_two (by omega) (by omega),Lib.encodeRuneZ_two (by omega) (by omega)]
  exact ⟨by omega,by omega,rfl,rfl⟩
 ·rw [Lib.encodeRuneZ_three (by omega),Lib.encodeRuneZ_three (by omega)]
  exact ⟨by omega,by omega,rfl,rfl⟩
 ·rw [Lib.encodeRuneZ_three (by omega),Lib.encodeRuneZ_three (by omega)]
  exact ⟨by omega,by omega,rfl,rfl⟩
 ·rw [Lib.encodeRuneZ_four (by omega) (by omega),Lib.encodeRuneZ_four (by omega) (by omega)]
  exact ⟨by omega,by omega,rfl,rfl⟩
def txt (c:Int):ByteArray:=⟨(Ut.encS [c]).toArray⟩
theorem encS_one {c:Int} (h:Ut.whole c=true):Ut.encS [c]=Lib.encodeRune c:=by
 rw [Ut.encS_yes (by simp [Ut.allW,h])]
 simp [Ut.enc]
theorem txt_size {c:Int} (h:Ut.whole c=true):(txt c).size=(Lib.encodeRuneZ c).length:=by
 show (Ut.encS [c]).toArray.size=_
 rw [encS_one h,List.size_toArray]
 unfold Lib.encodeRune
 rw [List.length_map]
theorem txt_at {c:Int} (h:Ut.whole c=true) (k:Nat) (hk:k<(txt c).size) (hk2:k<(Lib.encodeRuneZ c).length):(((txt c)[k]).toNat:Int)=(Lib.encodeRuneZ c)[k]:=by
 have hb:=Lib.encodeRuneZ_byte c _ (List.getElem_mem hk2)
 have e:(txt c)[k]=((Lib.encodeRuneZ c)[k]).toNat.toUInt8:=by
  have:(txt c)[k]=(Ut.encS [c])[k]'(by have:(txt c).size=(Ut.encS [c]).length:=List.size_toArray;omega):=rfl
  rw [this]
  simp only [encS_one h]
  unfold Lib.encodeRune
  rw [List.getElem_map]
 rw [e]
 exact Ut.byteI _ hb.1 hb.2
end Sp
theorem Tryz.infoR:(Tryz.prog.info? 205).map (fun i=>(i.zero,i.size,i.bytes))=some (some (.agg #[.int .i64 0,.int .i64 0]),2,16):=by kernel_rfl
def RowG (w:World) (g:Nat) (r:List (Int × Int)):Prop:=w.rowIs g 205 (r.length*2) (fun j=>.int .i64 (Sp.cellAt r j))
theorem makeR (n:Nat) (hn:n≤1000) (w:World):
  (Instr.makeSlice 179 (.int .i64 (n:Int)) (.int .i64 (n:Int))).run Tryz.prog w=.ok (.slice (some ⟨w.heap.size,0,none⟩) n n) (w.alloc (.cells (madeCells #[.int .i64 0,.int .i64 0] (n*2)) 205)):=by
 obtain ⟨ii,hi,hz0,hz1,hz2⟩:=info_parts Tryz.infoR
 have h:=run_make (P:=Tryz.prog) w 179 205 ii _ Tryz.underlying179 hi hz0 .i64 .i64 (n:Int) (n:Int) (by omega) (by omega) (by rw [hz2];omega) (by omega)
 rw [hz1,Int.toNat_natCast] at h
 exact h
theorem madeR (w:World) (n:Nat) (r:List (Int × Int)):(w.alloc (.cells (madeCells #[.int .i64 0,.int .i64 0] (n*2)) 205)).rowIs w.heap.size 205 (n*2) (fun j=>.int .i64 (Sp.cellUpto r 0 j)):=by
 refine ⟨_,Go.Deep.blk_alloc_new _ _,by rw [size_madeCells],fun i hi=>?_⟩
 have:i%2=0∨i%2=1:=by omega
 rcases this with h | h <;> simp [madeCells,Sp.cellUpto,h,hi]
theorem rowOf_any (a b f l:Int) (tails t:Nat) (hk:Sp.InCut f l tails) (hgd:Sp.Good f l tails t a b) (w:World):
  Calls Tryz.prog 119 #[.int .i64 a,.int .i64 b] w fun e w'=>∃g,e=.returned (.slice (some ⟨g,0,none⟩) (tails+1) (tails+1))∧w.heap.size≤g∧RowG w' g (Sp.rowOf (a,b))∧Below w.heap.size w w':=by
 obtain ⟨ha,hb,la,lb⟩:=Sp.good_whole hk hgd
 obtain ⟨h3,_⟩:=Sp.cut_small hk
 have sa:=Sp.txt_size ha
 have sb:=Sp.txt_size hb
 have lr:(Sp.rowOf (a,b)).length=tails+1:=by unfold Sp.rowOf;rw [List.length_zip,la,lb];simp
 have hat:∀k (h1:k<(Sp.txt a).size) (h2:k<(Sp.rowOf (a,b)).length),(((Sp.txt a)[k]).toNat:Int)=(Sp.rowOf (a,b))[k].1:=fun k h1 h2=>by
  rw [Sp.txt_at ha k h1 (by omega)]
  simp [Sp.rowOf]
 have hbt:∀k (h1:k<(Sp.txt b).size) (h2:k<(Sp.rowOf (a,b)).length),(((Sp.txt b)[k]).toNat:Int)=(Sp.rowOf (a,b))[k].2:=fun k h1 h2=>by
  rw [Sp.txt_at hb k h1 (by omega)]
  simp [Sp.rowOf]
 rw [la] at sa
 rw [lb] at sb
 have H1:Hid (∀w:World,Calls Tryz.prog 131 #[.slice (some ⟨w.heap.size,0,none⟩) 1 1] (w.alloc (.cells #[.int .i64 a] 3)) fun e w'=>e=.returned (.tuple #[.string (Sp.txt a),.int .i64 (Ut.encE [a])])∧Below (w.alloc (.cells #[.int .i64 a] 3)).heap.size (w.alloc (.cells #[.int .i64 a] 3)) w'):=fun w=>encode_any _ _ [a] (ints_lit w [a] (by simp)) (by simp)
 have H2:Hid (∀w:World,Calls Tryz.prog 131 #[.slice (some ⟨w.heap.size,0,none⟩) 1 1] (w.alloc (.cells #[.int .i64 b] 3)) fun e w'=>e=.returned (.tuple #[.string (Sp.txt b),.int .i64 (Ut.encE [b])])∧Below (w.alloc (.cells #[.int .i64 b] 3)).heap.size (w.alloc (.cells #[.int .i64 b] 3)) w'):=fun w=>encode_any _ _ [b] (ints_lit w [b] (by simp)) (by simp)
 have HAT:=lh hat
 have HBT:=lh hbt
 have HSA:=lh sa
 have HSB:=lh sb
 have HLR:=lh lr
 generalize Sp.rowOf (a,b)=r at *
 generalize Sp.txt a=s1 at *
 generalize Sp.txt b=s2 at *
 generalize Ut.encE [a]=e1 at *
 generalize Ut.encE [b]=e2 at *
 obtain ⟨n,hn⟩:∃n,n=tails+1:=⟨_,rfl⟩
 have hn4:n≤4:=by omega
 rw [←hn] at sa sb ⊢
 have HN:=lh hn
 clear hat hbt lr hgd hk ha hb la lb hn h3
 have hmk:=makeR n (by omega)
 go_enter Tryz.func119,Tryz.ntmps119
 go_wp2_with fail
 refine (H1.out w).mono ?_
 rintro e w1 ⟨rfl,hb1⟩
 have HB1:Hid (Below w.heap.size w w1):=((Below.refl _ _).alloc (Nat.le_refl _) _).trans (hb1.mono (by simp))
 clear hb1
 go_wp2_with fail
 refine (H2.out w1).mono ?_
 rintro e w2 ⟨rfl,hb2⟩
 have HB2:Hid (Below w.heap.size w w2):=HB1.out.trans (((Below.refl _ _).alloc (Nat.le_refl _) _).trans (hb2.mono (by simp)) |>.mono HB1.out.size)
 clear hb2 HB1
 go_wp2_with fail
 have hst:Hid ((w2.alloc (.cells (madeCells #[.int .i64 0,.int .i64 0] (n*2)) 205)).rowIs w2.heap.size 205 (n*2) (fun j=>.int .i64 (Sp.cellUpto r 0 j))):=madeR w2 n r
 have HB3:Hid (Below w.heap.size w (w2.alloc (.cells (madeCells #[.int .i64 0,.int .i64 0] (n*2)) 205))):=HB2.out.alloc HB2.out.size _
 obtain ⟨G,hG⟩:∃G,G=w2.heap.size:=⟨_,rfl⟩
 have HG:Hid (w.heap.size≤G):=by show _≤_;rw [hG];exact HB2.out.size
 rw [←hG] at hst ⊢
 clear hG hmk
 generalize w2.alloc (.cells (madeCells #[.int .i64 0,.int .i64 0] (n*2)) 205)=w3 at *
 go_loopg [28] n (fun g i wx=>∃k:Nat,k≤n∧g=n-k∧i=.int .i64 k∧Hid (wx.rowIs G 205 (n*2) (fun j=>.int .i64 (Sp.cellUpto r k j)))∧Hid (Below w.heap.size w wx))
 case atStart=>exact ⟨0,Nat.zero_le _,rfl,rfl,hst,HB3⟩
 case round=>
  obtain ⟨k,hkn,rfl,rfl,hrow,hbel⟩:=hrel
  by_cases hlt:k<n
  ·have i1:(k:Int)<(n:Int):=by omega
   have k1:k<s1.size:=by omega
   have k2:k<s2.size:=by omega
   have kr:k<r.length:=by have:=HLR.out;have:=HN.out;omega
   have x1:=HAT.out k k1 kr
   have x2:=HBT.out k k2 kr
   have y1:0≤r[k].1:=by omega
   have y2:r[k].1≤255:=by have:=(s1[k]).toNat_lt;omega
   have y3:0≤r[k].2:=by omega
   have y4:r[k].2≤255:=by have:=(s2[k]).toNat_lt;omega
   have c1:=hrow.out.cell (i:=k*2) (by omega)
   have c2:=hrow.out.cell (i:=k*2+1) (by omega)
   have f1:=hrow.out.frozen (k*2)
   have f2:=hrow.out.frozen (k*2+1)
   go_wp2_with fail
   go_region
   go_wp2_with fail
   go_roundg (n-(k+1))
   case rel=>
    have R1:Hid (((wr.setCell ⟨G,k*2,none⟩ (.int .i64 r[k].1)).setCell ⟨G,k*2+1,none⟩ (.int .i64 r[k].2)).drew.rowIs G 205 (n*2) (fun j=>.int .i64 (Sp.cellUpto r (k+1) j))):=
     (((hrow.out.set (k*2) (.int .i64 r[k].1)).set (k*2+1) (.int .i64 r[k].2)).congr fun j _=>Sp.cellUpto_set r k kr j).drew
    have R2:Hid (Below w.heap.size w ((wr.setCell ⟨G,k*2,none⟩ (.int .i64 r[k].1)).setCell ⟨G,k*2+1,none⟩ (.int .i64 r[k].2)).drew):=((hbel.out.setCell HG.out _).setCell HG.out _).drew
    exact ⟨k+1,by omega,rfl,by go_num,R1,R2⟩
   case measure=>omega
  ·obtain rfl:k=n:=by omega
   go_wp2_with fail
   go_ret
   have e:=HN.out
   subst e
   refine ⟨G,rfl,HG.out,?_,hbel.out⟩
   unfold RowG
   rw [HLR.out]
   exact hrow.out.congr fun j hj=>by simp only [Sp.cellUpto,if_pos hj]
end
section
open Go.RowKit
theorem Tryz.infoRR:(Tryz.prog.info? 179).map (fun i=>(i.zero,i.size,i.bytes))=some (some (.slice none 0 0),1,24):=by kernel_rfl
def rowVs (gs:List Nat) (L:List (List (Int × Int))):List Value:=(gs.zip L).map fun p=>.slice (some ⟨p.1,0,none⟩) p.2.length p.2.length
theorem rowVs_at {gs:List Nat} {L:List (List (Int × Int))} (j:Nat) (h1:j<gs.length) (h2:j<L.length):(rowVs gs L)[j]?=some (.slice (some ⟨gs[j],0,none⟩) L[j].length L[j].length):=by
 unfold rowVs
 rw [List.getElem?_map,List.getElem?_eq_getElem (by simp;omega)]
 simp
theorem rowVs_snoc {gs:List Nat} {L:List (List (Int × Int))} (h:gs.length=L.length) (g:Nat) (r:List (Int × Int)):rowVs gs L++[.slice (some ⟨g,0,none⟩) r.length r.length]=rowVs (gs++[g]) (L++[r]):=by
 unfold rowVs
 rw [List.zip_append h]
 simp
structure RowsO (w:World) (B:Nat) (v:Value) (gs:List Nat) (L:List (List (Int × Int))):Prop where
 own:w.ownsRow B 179 1 v L.length (rowVs gs L)
 len:gs.length=L.length
 row:∀j (h:j<gs.length) (h2:j<L.length),B≤gs[j]∧RowG w gs[j] L[j]
 inc:gs.Pairwise (· < ·)
theorem RowG.kind {w:World} {g:Nat} {r:List (Int × Int)} (h:RowG w g r):∃(c:Array Value) (fz:Nat × Nat),w.heap[g]?=some (Obj.cells c 205 fz):=by
 obtain ⟨c,h1,_⟩:=id h
 exact ⟨c,_,h1⟩
theorem RowG.of_block {w w':World} {g:Nat} {r:List (Int × Int)} (h:RowG w g r) (e:w'.heap[g]?=w.heap[g]?):RowG w' g r:=World.rowIs.of_block h e
theorem RowG.lt {w:World} {g:Nat} {r:List (Int × Int)} (h:RowG w g r):g<w.heap.size:=World.rowIs.lt h
theorem RowsO.nil (w:World) (B:Nat):RowsO w B (.slice none 0 0) [] []:=⟨World.ownsRow_nil w B _ _,rfl,fun j h=>by simp at h,List.Pairwise.nil⟩
theorem RowsO.kind {w:World} {B:Nat} {v:Value} {gs:List Nat} {L:List (List (Int × Int))} (h:RowsO w B v gs L):∀g,v.ownBlock=some g→B≤g∧g<w.heap.size∧∃(c:Array Value) (fz:Nat × Nat),w.heap[g]?=some (Obj.cells c 179 fz):=by
 intro g hv
 refine ⟨(World.ownsRow.lt h.own g hv).1,(World.ownsRow.lt h.own g hv).2,?_⟩
 rcases h.own.2 with ⟨h1,_⟩ | ⟨g',cap,cur,h1,hg,hh,_⟩
 ·rw [h1] at hv;cases hv
 ·rw [h1] at hv
  obtain rfl:g'=g:=by simpa [Value.ownBlock] using hv
  exact ⟨_,_,hh⟩
theorem kinds_neY {w:World} {g k:Nat} {c c':Array Value} {t t':TypeId} {fz fz':Nat × Nat} (h:w.heap[g]?=some (.cells c t fz)) (h':w.heap[k]?=some (.cells c' t' fz')) (ht:t≠t'):g≠k:=by
 rintro rfl
 rw [h] at h'
 injection h' with h'
 injection h' with _ h2
 exact ht h2
theorem ownsRow_keepY {w w':World} {B:Nat} {t:TypeId} {z:Nat} {v:Value} {n:Nat} {xs:List Value} (h:w.ownsRow B t z v n xs) (e:∀k,v.ownBlock=some k→w'.heap[k]?=w.heap[k]?):w'.ownsRow B t z v n xs:=by
 refine ⟨h.1,?_⟩
 rcases h.2 with h1 | ⟨g,cap,cur,rfl,hg,hh,hr⟩
 ·exact .inl h1
 ·exact .inr ⟨g,cap,cur,rfl,hg,(e g rfl).trans hh,hr⟩
theorem RowsO.keep {w w':World} {B:Nat} {v:Value} {gs:List Nat} {L:List (List (Int × Int))} (h:RowsO w B v gs L) (e:∀k,k<w.heap.size→w'.heap[k]?=w.heap[k]?):RowsO w' B v gs L:=
 ⟨ownsRow_keepY h.own fun k hv=>e k (h.kind k hv).2.1,h.len,fun j h1 h2=>⟨(h.row j h1 h2).1,(h.row j h1 h2).2.of_block (e _ (h.row j h1 h2).2.lt)⟩,h.inc⟩
theorem RowsO.below {w w':World} {B:Nat} {v:Value} {gs:List Nat} {L:List (List (Int × Int))} (h:RowsO w B v gs L) (hb:Below w.heap.size w w'):RowsO w' B v gs L:=h.keep fun k hk=>hb.block k hk
theorem RowsO.alloc {w:World} {B:Nat} {v:Value} {gs:List Nat} {L:List (List (Int × Int))} (h:RowsO w B v gs L) (o:Obj):RowsO (w.alloc o) B v gs L:=h.keep fun _ hk=>Go.Deep.blk_alloc_lt _ _ _ hk
theorem RowsO.push {wr w1:World} {B G:Nat} {v v':Value} {gs:List Nat} {L:List (List (Int × Int))} {r:List (Int × Int)} {o:Obj} (h:RowsO wr B v gs L) (hG:RowG wr G r) (hB:B≤G) (hlt:∀g∈gs,g<G)
  (h1:w1.ownsRow B 179 1 v' (L.length+1) (rowVs gs L++[.slice (some ⟨G,0,none⟩) r.length r.length])) (hg:(wr.alloc o).grownBy w1 v.ownBlock):RowsO w1 B v' (gs++[G]) (L++[r]):=by
 have hl:=h.len
 have keep:∀(k:Nat) (c:Array Value) (fz:Nat × Nat),wr.heap[k]?=some (Obj.cells c 205 fz)→w1.heap[k]?=wr.heap[k]?:=fun k c fz hk=>by
  obtain ⟨hlk,_⟩:=Array.getElem?_eq_some_iff.1 hk
  rw [hg.block k (by simp;omega) (fun e=>?_),Go.Deep.blk_alloc_lt _ _ _ hlk]
  obtain ⟨_,_,c',fz',hc'⟩:=h.kind k e.symm
  exact kinds_neY hk hc' (by decide) rfl
 refine ⟨?_,by simp [hl],fun j hj hj2=>?_,?_⟩
 ·rw [rowVs_snoc hl] at h1
  simpa using h1
 ·by_cases e:j<gs.length
  ·rw [List.getElem_append_left e,List.getElem_append_left (by omega)]
   obtain ⟨q1,q2⟩:=h.row j e (by omega)
   obtain ⟨c,fz,hc⟩:=q2.kind
   exact ⟨q1,q2.of_block (keep _ c fz hc)⟩
  ·have e':j=gs.length:=by simp at hj;omega
   subst e'
   simp only [hl,List.getElem_append_right (Nat.le_refl _),Nat.sub_self,List.getElem_cons_zero]
   obtain ⟨c,fz,hc⟩:=hG.kind
   have e3:(gs++[G])[L.length]'(by simp;omega)=G:=by simp only [←hl,List.getElem_append_right (Nat.le_refl _),Nat.sub_self,List.getElem_cons_zero]
   rw [e3]
   exact ⟨hB,hG.of_block (keep _ c fz hc)⟩
 ·rw [List.pairwise_append]
  exact ⟨h.inc,List.pairwise_singleton _ _,fun a ha b hb=>by rw [List.mem_singleton.1 hb];exact hlt a ha⟩
theorem new_sliceY (w:World) (a:Option Addr) (m c:Nat):∀j u,[Value.slice a m c][j]?=some u→(w.alloc (.cells #[.slice a m c] 179)).cell? ((⟨w.heap.size,0,none⟩:Addr).add j)=some u:=by
 intro j u hj
 match j,hj with
 | 0,hj=>simp at hj;subst hj;simp [Addr.add]
theorem RowsO.blocks {w:World} {B:Nat} {v:Value} {gs:List Nat} {L:List (List (Int × Int))} (h:RowsO w B v gs L):∀g∈gs,g<w.heap.size:=by
 intro g hg
 obtain ⟨j,hj,rfl⟩:=List.mem_iff_getElem.1 hg
 exact (h.row j hj (by rw [←h.len];exact hj)).2.lt
theorem wpList_pushRow {ops:Array Oper} {rest:List Oper} {o:Oper} {a:Act} {Q:Exit→Act→World→Prop} {w:World} (hgd:o.guard=none) (s x:Operand)
  (ho:o.op=.call { callee:=.builtin .append,args:=#[s,x],argTypes:=#[177,177]})
  (B G m:Nat) (v:Value) (gs:List Nat) (L:List (List (Int × Int))) (r:List (Int × Int)) (hs:a.eval s=v) (h:RowsO w B v gs L) (hB:B≤w.heap.size) (hG:RowG w G r) (hBG:B≤G) (hlt:∀g∈gs,g<G) (hr:r.length=m)
  (hx:a.eval x=.slice (some ⟨w.heap.size,0,none⟩) 1 1) (hb:L.length+1≤1099511627776)
  (hk:∀v' w',RowsO w' B v' (gs++[G]) (L++[r])→(w.alloc (.cells #[.slice (some ⟨G,0,none⟩) m m] 179)).grownBy w' v.ownBlock→wpList Tryz.prog ops Q rest (a.put o.dst v') w'):
  wpList Tryz.prog ops Q (o :: rest) a (w.alloc (.cells #[.slice (some ⟨G,0,none⟩) m m] 179)):=by
 subst hr
 obtain ⟨ii,hi,hz0,hz1,hz2⟩:=info_parts Tryz.infoRR
 refine wpList_append_own _ hgd s x 177 ho B 179 ii (.slice none 0 0) 1 24 Tryz.underlying177 hi hz0 hz1 hz2 rfl (by decide) _ _ _ hs (h.own.alloc _) ⟨w.heap.size,0,none⟩ 1 1 [.slice (some ⟨G,0,none⟩) r.length r.length] hx rfl (new_sliceY w _ _ _) ?_ (by unfold maxLen;omega) (by omega) (by simp;omega) ?_
 ·intro u hu
  simp at hu
  subst hu
  rfl
 ·intro v' w' h1 h2 _
  exact hk v' w' (h.push hG hBG hlt h1 h2) h2
end
section
open Go.RowKit
namespace Sp
def upto (lo hi:Int) (k:Nat):List (Int × Int):=(cuts.take k).flatMap fun k=>segs (max lo k.1) (min hi k.2.1) k.2.2
theorem upto_step (lo hi:Int) (k:Nat) (f l:Int) (tl:Nat) (hc:cuts[k]?=some (f,l,tl)):upto lo hi (k+1)=upto lo hi k++segs (max lo f) (min hi l) tl:=by
 unfold upto
 rw [List.take_add_one,hc,Option.toList_some,List.flatMap_append]
 simp
theorem upto_len (lo hi:Int) (k:Nat):(upto lo hi k).length≤20:=by
 have h:=rows_few lo hi
 unfold rows at h
 rw [List.length_map] at h
 refine Nat.le_trans ?_ h
 unfold upto pairs
 conv=>rhs;rw [←List.take_append_drop k cuts]
 rw [List.flatMap_append,List.length_append]
 exact Nat.le_add_right _ _
theorem done_len {lo hi:Int} {k:Nat} {f l:Int} {tl:Nat} (hc:cuts[k]?=some (f,l,tl)) {done rest:List (Int × Int)} (e:segs (max lo f) (min hi l) tl=done++rest):(upto lo hi k++done).length≤20:=by
 have h1:=upto_len lo hi (k+1)
 rw [upto_step lo hi k f l tl hc,e] at h1
 simp only [List.length_append] at h1 ⊢
 omega
theorem cut_last {f l:Int} {tails:Nat} (h:InCut f l tails):l≤1114111:=by cases h <;> omega
theorem cut_at (k:Nat) (h:k<5):∃f l tl,cuts[k]?=some (f,l,tl)∧InCut f l tl:=by
 have hk:k=0∨k=1∨k=2∨k=3∨k=4:=by omega
 rcases hk with rfl | rfl | rfl | rfl | rfl
 ·exact ⟨_,_,_,rfl,.c0⟩
 ·exact ⟨_,_,_,rfl,.c1⟩
 ·exact ⟨_,_,_,rfl,.c2⟩
 ·exact ⟨_,_,_,rfl,.c3⟩
 ·exact ⟨_,_,_,rfl,.c4⟩
end Sp
theorem mem_snoc {w:World} {B:Nat} {v:Value} {gs:List Nat} {L:List (List (Int × Int))} (h:RowsO w B v gs L) {G:Nat} (hG:w.heap.size≤G):∀g∈gs,g<G:=fun g hg=>by have:=h.blocks g hg;omega
theorem cut_index0 (w:World):(Instr.index 201 (.agg #[.int .i64 0,.int .i64 127,.int .i64 0,.int .i64 128,.int .i64 2047,.int .i64 1,.int .i64 2048,.int .i64 55295,.int .i64 2,.int .i64 57344,.int .i64 65535,.int .i64 2,.int .i64 65536,.int .i64 1114111,.int .i64 3]) (.int .i64 0)).run Tryz.prog w=.ok (.agg #[.int .i64 0,.int .i64 127,.int .i64 0]) w:=by kernel_rfl
theorem cut_index1 (w:World):(Instr.index 201 (.agg #[.int .i64 0,.int .i64 127,.int .i64 0,.int .i64 128,.int .i64 2047,.int .i64 1,.int .i64 2048,.int .i64 55295,.int .i64 2,.int .i64 57344,.int .i64 65535,.int .i64 2,.int .i64 65536,.int .i64 1114111,.int .i64 3]) (.int .i64 1)).run Tryz.prog w=.ok (.agg #[.int .i64 128,.int .i64 2047,.int .i64 1]) w:=by kernel_rfl
theorem cut_index2 (w:World):(Instr.index 201 (.agg #[.int .i64 0,.int .i64 127,.int .i64 0,.int .i64 128,.int .i64 2047,.int .i64 1,.int .i64 2048,.int .i64 55295,.int .i64 2,.int .i64 57344,.int .i64 65535,.int .i64 2,.int .i64 65536,.int .i64 1114111,.int .i64 3]) (.int .i64 2)).run Tryz.prog w=.ok (.agg #[.int .i64 2048,.int .i64 55295,.int .i64 2]) w:=by kernel_rfl
theorem cut_index3 (w:World):(Instr.index 201 (.agg #[.int .i64 0,.int .i64 127,.int .i64 0,.int .i64 128,.int .i64 2047,.int .i64 1,.int .i64 2048,.int .i64 55295,.int .i64 2,.int .i64 57344,.int .i64 65535,.int .i64 2,.int .i64 65536,.int .i64 1114111,.int .i64 3]) (.int .i64 3)).run Tryz.prog w=.ok (.agg #[.int .i64 57344,.int .i64 65535,.int .i64 2]) w:=by kernel_rfl
theorem cut_index4 (w:World):(Instr.index 201 (.agg #[.int .i64 0,.int .i64 127,.int .i64 0,.int .i64 128,.int .i64 2047,.int .i64 1,.int .i64 2048,.int .i64 55295,.int .i64 2,.int .i64 57344,.int .i64 65535,.int .i64 2,.int .i64 65536,.int .i64 1114111,.int .i64 3]) (.int .i64 4)).run Tryz.prog w=.ok (.agg #[.int .i64 65536,.int .i64 1114111,.int .i64 3]) w:=by kernel_rfl
theorem cut_index (k:Nat) (f l:Int) (tl:Nat) (h:Sp.cuts[k]?=some (f,l,tl)) (w:World):
  (Instr.index 201 (.agg #[.int .i64 0,.int .i64 127,.int .i64 0,.int .i64 128,.int .i64 2047,.int .i64 1,.int .i64 2048,.int .i64 55295,.int .i64 2,.int .i64 57344,.int .i64 65535,.int .i64 2,.int .i64 65536,.int .i64 1114111,.int .i64 3]) (.int .i64 (k:Int))).run Tryz.prog w=.ok (.agg #[.int .i64 f,.int .i64 l,.int .i64 (tl:Int)]) w:=by
 have hk:k<5:=(List.getElem?_eq_some_iff.1 h).1
 have hk:k=0∨k=1∨k=2∨k=3∨k=4:=by omega
 rcases hk with rfl | rfl | rfl | rfl | rfl
 ·simp [Sp.cuts] at h
  obtain ⟨rfl,rfl,rfl⟩:=h
  exact cut_index0 w
 ·simp [Sp.cuts] at h
  obtain ⟨rfl,rfl,rfl⟩:=h
  exact cut_index1 w
 ·simp [Sp.cuts] at h
  obtain ⟨rfl,rfl,rfl⟩:=h
  exact cut_index2 w
 ·simp [Sp.cuts] at h
  obtain ⟨rfl,rfl,rfl⟩:=h
  exact cut_index3 w
 ·simp [Sp.cuts] at h
  obtain ⟨rfl,rfl,rfl⟩:=h
  exact cut_index4 w
theorem rows_any (lo hi:Int) (w:World):
  Calls Tryz.prog 100 #[.int .i64 lo,.int .i64 hi] w fun e w'=>∃v gs,e=.returned v∧RowsO w' w.heap.size v gs (Sp.rows lo hi)∧Below w.heap.size w w':=by
 go_enter Tryz.func100,Tryz.ntmps100
 go_wp2_with fail
 have HB0:Hid (∀o,Below w.heap.size w (w.alloc o)):=fun o=>(Below.refl _ _).alloc (Nat.le_refl _) o
 obtain ⟨w1,hw1⟩:∃w1,w1=w.alloc (.cells #[.int .i64 0,.int .i64 127,.int .i64 0,.int .i64 128,.int .i64 2047,.int .i64 1,.int .i64 2048,.int .i64 55295,.int .i64 2,.int .i64 57344,.int .i64 65535,.int .i64 2,.int .i64 65536,.int .i64 1114111,.int .i64 3] 201):=⟨_,rfl⟩
 have HB1:Hid (Below w.heap.size w w1):=by rw [hw1];exact HB0.out _
 rw [←hw1]
 clear hw1 HB0
 go_loopg [6,19] 5 (fun g v i wx=>∃(k:Nat) (gs:List Nat),k≤5∧g=5-k∧i=.int .i64 k∧Hid (RowsO wx w.heap.size v gs ((Sp.upto lo hi k).map Sp.rowOf))∧Hid (Below w.heap.size w wx))
 case atStart=>exact ⟨0,[],by omega,rfl,rfl,RowsO.nil _ _,HB1⟩
 case round=>
  obtain ⟨k,gs,hk,rfl,rfl,hrows,hbel⟩:=hrel
  by_cases hlt:k<5
  ·have i1:(k:Int)<5:=by omega
   obtain ⟨f,l,tl,hcut,hin⟩:=Sp.cut_at k hlt
   have hix:=cut_index k f l tl hcut
   obtain ⟨M,hM⟩:∃M,M=min hi l:=⟨_,rfl⟩
   obtain ⟨C,hC⟩:∃C,C=max lo f:=⟨_,rfl⟩
   have hmin:min hi l=M:=hM.symm
   have hmin2:min l hi=M:=by rw [hM];omega
   have hmax:max lo f=C:=hC.symm
   have hmax2:max f lo=C:=by rw [hC];omega
   have hf0:=(Sp.cut_small hin).2
   have htl:=(Sp.cut_small hin).1
   have hl1:=Sp.cut_last hin
   have hCf:f≤C:=by omega
   have hMl:M≤l:=by omega
   have HUP:=lh (Sp.upto_step lo hi k f l tl hcut)
   have HDL:=lh (fun done rest=>@Sp.done_len lo hi k f l tl hcut done rest)
   rw [←hM,←hC] at HUP HDL
   have HIN:=lh hin
   have HBS:Hid (w.heap.size≤wr.heap.size):=hbel.out.size
   have HROW:=lh (hrows.out.alloc (.cells #[.int .i64 f,.int .i64 l,.int .i64 (tl:Int)] 200))
   have HBL:Hid (Below w.heap.size w (wr.alloc (.cells #[.int .i64 f,.int .i64 l,.int .i64 (tl:Int)] 200))):=hbel.out.alloc HBS.out _
   have HBK:Hid ((wr.alloc (.cells #[.int .i64 f,.int .i64 l,.int .i64 (tl:Int)] 200)).heap[wr.heap.size]?=some (.cells #[.int .i64 f,.int .i64 l,.int .i64 (tl:Int)] 200 (0,0))):=Go.Deep.blk_alloc_new _ _
   clear hM hC hcut hin hrows hbel
   go_wp2_with fail
   clear hix hmin hmax hmin2 hmax2
   obtain ⟨b8,hb8⟩:∃b,b=wr.heap.size:=⟨_,rfl⟩
   have HB8:Hid (w.heap.size≤b8):=by show _≤_;rw [hb8];exact HBS.out
   rw [←hb8] at HBK ⊢
   clear hb8
   generalize wr.alloc (.cells #[.int .i64 f,.int .i64 l,.int .i64 (tl:Int)] 200)=W1 at *
   go_loopg [6,10] (M+1-C).toNat (fun g v c wx=>∃(vv:Value) (x:Int) (gs:List Nat) (done:List (Int × Int)),vv=v∧f≤x∧g=(M+1-x).toNat∧c=.int .i64 x∧Hid (Sp.segs C M tl=done++Sp.segs x M tl)∧Hid (RowsO wx w.heap.size v gs ((Sp.upto lo hi k++done).map Sp.rowOf))∧Hid (Below w.heap.size w wx) ∧
    Hid (wx.heap[b8]?=some (.cells #[.int .i64 f,.int .i64 l,.int .i64 (tl:Int)] 200 (0,0))))
   case atStart=>exact ⟨_,C,gs,[],rfl,hCf,rfl,rfl,rfl,by rw [List.append_nil];exact HROW.out,HBL,HBK⟩
   case round=>
    obtain ⟨vv,x,gs2,done,rfl,hfx,rfl,rfl,hseg,hrows,hbel,hblk⟩:=hrel
    by_cases hxM:x≤M
    ·have hgd:=(Sp.endOf_good x M f l tl htl (by omega) hfx hxM hMl)
     have hE:=lh (endOf_any x M tl wr (by omega) hxM (by omega) htl)
     have hst:=Sp.segs_step x M tl htl (by omega)
     rw [if_pos hxM] at hst
     obtain ⟨hg1,hg2⟩:=hgd
     have hle:=hg1.le
     have HR:=lh (rowOf_any x (Sp.endOf x M tl) f l tl _ HIN.out hg1)
     have hlen:=HDL.out done (Sp.segs x M tl) hseg.out
     have HSEG:Hid (Sp.segs C M tl=(done++[(x,Sp.endOf x M tl)])++Sp.segs (Sp.endOf x M tl+1) M tl):=by
      show _=_
      rw [List.append_assoc,List.singleton_append,←hst]
      exact hseg.out
     have HLR:Hid ((Sp.rowOf (x,Sp.endOf x M tl)).length=tl+1):=(Sp.row_good HIN.out hg1).len
     have c8:wr.cell? ⟨b8,2,none⟩=some (.int .i64 (tl:Int)):=by simp [World.cell?,hblk.out]
     have HLEN:Hid (((Sp.upto lo hi k++done).map Sp.rowOf).length≤20):=by show _≤_;rw [List.length_map];exact hlen
     clear hg1 hst hlen hseg
     generalize Sp.endOf x M tl=e at *
     go_wp2_with fail
     refine hE.out.mono ?_
     rintro e2 w2 ⟨rfl,rfl⟩
     go_wp2_with fail
     refine (HR.out wr).mono ?_
     rintro e2 w2 ⟨G,rfl,hG1,hG2,hG3⟩
     have HG1:Hid (w.heap.size≤G):=Nat.le_trans hbel.out.size hG1
     have HG2:=lh hG2
     have HR2:=lh (hrows.out.below hG3)
     have HMS:=lh (mem_snoc hrows.out hG1)
     have HB2:Hid (Below w.heap.size w w2):=hbel.out.trans (hG3.mono hbel.out.size)
     have HK2:Hid (w2.heap[b8]?=some (.cells #[.int .i64 f,.int .i64 l,.int .i64 (tl:Int)] 200 (0,0))):=by
      have h8:=(Array.getElem?_eq_some_iff.1 hblk.out).1
      exact (hG3.block b8 h8).trans hblk.out
     clear hG1 hG2 hG3
     go_wp2_with (at_builtin;go_loud ((refine wpList_pushRow rfl _ _ rfl w.heap.size G (tl+1) vv gs2 _ _ rfl HR2.out HB2.out.size HG2.out HG1.out HMS.out HLR.out rfl (by have:=HLEN.out;omega) ?_));intro v5 w5 hr5 hg5;have HR5:=lh hr5;have HG5:=lh hg5;clear hr5 hg5)
     have HK5:Hid (w5.heap[b8]?=some (.cells #[.int .i64 f,.int .i64 l,.int .i64 (tl:Int)] 200 (0,0))):=by
      have h8:=(Array.getElem?_eq_some_iff.1 HK2.out).1
      refine (HG5.out.block b8 (by simp;omega) (fun e=>?_)).trans ((Go.Deep.blk_alloc_lt _ _ _ h8).trans HK2.out)
      obtain ⟨_,_,c',fz',hc'⟩:=HR2.out.kind b8 e.symm
      exact kinds_neY HK2.out hc' (by decide) rfl
     have HB5:Hid (Below w.heap.size w w5):=(HB2.out.alloc HB2.out.size _).grown HG5.out (by have:=HB2.out.size;simp;omega) (fun j hj=>(HR2.out.kind j hj).1)
     go_roundg (M+1-(e+1)).toNat
     case rel=>exact ⟨_,e+1,_,_,rfl,by omega,rfl,by go_num,HSEG,by show RowsO _ _ _ _ _;simpa using HR5.out,HB5,HK5⟩
     case measure=>omega
    ·have hst:=Sp.segs_step x M tl htl (by omega)
     rw [if_neg hxM] at hst
     have HU:Hid (Sp.upto lo hi (k+1)=Sp.upto lo hi k++done):=by
      show _=_
      rw [HUP.out,hseg.out,hst,List.append_nil]
     clear hst
     go_wp2_with fail
     go_roundg (5-(k+1))
     case rel=>exact ⟨k+1,gs2,by omega,rfl,by go_num,by rw [HU.out];exact hrows,hbel⟩
     case measure=>omega
  ·obtain rfl:k=5:=by omega
   go_wp2_with fail
   go_ret
   exact ⟨_,gs,rfl,hrows.out,hbel.out⟩
end
end Go.Proofs.YtmdefnbpimfbgaaGreatDoor

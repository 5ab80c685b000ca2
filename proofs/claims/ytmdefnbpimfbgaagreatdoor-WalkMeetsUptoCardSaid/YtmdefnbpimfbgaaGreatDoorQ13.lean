/-
  Lemmas on automata, dictionaries and the walk over them, the program's calls and the given ones.
-/
import Derived.Test.YtmdefnbpimfbgaaGreatDoorQ12
import Derived.Test.YtmdefnbpimfbgaaGreatDoorCards
import Derived.Test.YtmdefnbpimfbgaaGreatDoorTie
import Derived.ProofKit
import Derived.OpenShut
import Derived.ShutString
import Derived.Deep.DeepWitnessRowRef
import Derived.Lib.LaidU8T
import Derived.PinnedBridge
set_option maxRecDepth 100000
set_option maxHeartbeats 16000000
namespace Go.Proofs.YtmdefnbpimfbgaaGreatDoor
section
open Go.RowKit
namespace Ut
open Go.Lib
def decS (l:List UInt8):List Int:=if validD l=true then dec l else []
def decE (l:List UInt8):Int:=if validD l=true then 0 else 7
theorem decS_yes {l:List UInt8} (h:validD l=true):decS l=dec l:=if_pos h
theorem decE_yes {l:List UInt8} (h:validD l=true):decE l=0:=if_pos h
theorem decS_no {l:List UInt8} (h:validD l=false):decS l=[]:=if_neg (by rw [h];exact Bool.false_ne_true)
theorem decE_no {l:List UInt8} (h:validD l=false):decE l=7:=if_neg (by rw [h];exact Bool.false_ne_true)
theorem decS_length (l:List UInt8):(decS l).length≤l.length:=by
 unfold decS
 split
 ·exact dec_length _ _
 ·simp
end Ut
def Tabs (w:World):Prop:=Lib.Utf8Tabs 1 2 w
theorem Tabs.below {w w':World} (h:Tabs w) (hb:Below w.heap.size w w'):Tabs w':=Utf8Tabs_below h hb
def DecPost (w:World) (s:List UInt8) (e:Ending) (w':World):Prop:=
 ∃v,e=.returned (.tuple #[v,.int .i64 (Ut.decE s)])∧OwnI w' w.heap.size v (Ut.decS s)∧Below w.heap.size w w'
theorem made_ownI (w:World) (B n:Nat) (hB:B≤w.heap.size) (hn:n≤17592186044416):
  OwnI (w.alloc (.cells (madeCells #[.int .i64 0] n) 3)) B (.slice (some ⟨w.heap.size,0,none⟩) 0 n) []:=
 World.ownsRow_made w (madeCells #[.int .i64 0] n) n hB (by unfold maxLen;omega) (by rw [size_madeCells,Nat.mul_one])
theorem makeI (n:Nat) (hn:n≤17592186044416) (w:World):
  (Instr.makeSlice 82 (.int .i64 0) (.int .i64 (n:Int))).run Tryz.prog w=.ok (.slice (some ⟨w.heap.size,0,none⟩) 0 n) (w.alloc (.cells (madeCells #[.int .i64 0] n) 3)):=by
 obtain ⟨ii,hi,hz0,hz1,hz2⟩:=info_parts Tryz.infoI
 have h:=run_make (P:=Tryz.prog) w 82 3 ii (.int .i64 0) Tryz.underlying82 hi hz0 .i64 .i64 0 (n:Int) (by omega) (by omega) (by rw [hz2];omega) (by omega)
 rw [hz1,Int.toNat_natCast,Nat.mul_one] at h
 exact h
theorem ret_vi {v:Value} {a b:Int} (h2:a=b):Ending.returned (.tuple #[v,.int .i64 a])=Ending.returned (.tuple #[v,.int .i64 b]):=by rw [h2]
theorem decode_any (w:World) (s:ByteArray) (hT:Tabs w) (hs:s.size≤17592186044416):
  Calls Tryz.prog 94 #[.string s] w (DecPost w s.data.toList):=by
 have hval:=lh (Tryz.utf8_ValidString s w (by omega) hT)
 have hcnt:=lh (fun w'=>Tryz.utf8_RuneCountInString s w' (by omega))
 have hrc:Lib.runeCount s≤s.size:=Lib.runeCount_le s
 generalize Lib.runeCount s=n at *
 cases hv:Lib.validD s.data.toList
 ·rw [hv] at hval
  have h1:=lh (Ut.decS_no hv)
  have h2:=lh (Ut.decE_no hv)
  clear hv hT
  go_enter Tryz.func94,Tryz.ntmps94
  go_wp2_with fail
  refine hval.out.mono ?_
  rintro e w1 ⟨rfl,hb⟩
  have HB:=lh hb
  clear hb
  go_wp2_with fail
  go_ret2
  exact ⟨_,ret_vi (by rw [h2.out]),by rw [h1.out];exact World.ownsRow_nil _ _ _ _,HB.out⟩
 ·rw [hv] at hval
  have h1:=lh (Ut.decS_yes hv)
  have h2:=lh (Ut.decE_yes hv)
  have HV:=lh hv
  have hmk:=makeI n (by omega)
  clear hv hT
  go_enter Tryz.func94,Tryz.ntmps94
  go_wp2_with fail
  refine hval.out.mono ?_
  rintro e w1 ⟨rfl,hb⟩
  have HB:=lh hb
  clear hb hval
  go_wp2_with fail
  refine (hcnt.out w1).mono ?_
  rintro e w2 ⟨rfl,p2,hw2⟩
  have HB2:Hid (Below w.heap.size w w2):=by
   rw [hw2]
   exact HB.out.alloc HB.out.size _
  clear hw2 HB hcnt
  go_wp2_with fail
  have HO:Hid (OwnI (w2.alloc (.cells (madeCells #[.int .i64 0] n) 3)) w.heap.size (.slice (some ⟨w2.heap.size,0,none⟩) 0 n) []):=made_ownI w2 w.heap.size n HB2.out.size (by omega)
  have HB3:Hid (Below w.heap.size w (w2.alloc (.cells (madeCells #[.int .i64 0] n) 3))):=HB2.out.alloc HB2.out.size _
  have hz3:w2.heap.size+1=(w2.alloc (.cells (madeCells #[.int .i64 0] n) 3)).heap.size:=by simp
  generalize w2.alloc (.cells (madeCells #[.int .i64 0] n) 3)=w3 at *
  clear hmk HB2
  generalize w2.heap.size+1=K at *
  have HK:=lh hz3
  clear hz3
  go_loopg [4] s.size (fun g v wx=>∃(pos:Nat) (acc:List Int),g=s.size-pos∧pos≤s.size∧acc.length≤pos∧wx.heap[K]?=some (.stringIter s pos)∧OwnI wx w.heap.size v acc∧Below w.heap.size w wx ∧
   Hid (Lib.validD (s.data.toList.drop pos)=true)∧Hid (acc++Ut.dec (s.data.toList.drop pos)=Ut.dec s.data.toList))
  case atStart=>
   refine ⟨0,[],rfl,Nat.zero_le _,Nat.le_refl _,?_,?_,?_,HV.out,rfl⟩
   ·rw [HK.out];exact World.iter_heap w3 s 0
   ·exact HO.out.keep ((Below.refl w3.heap.size w3).alloc (Nat.le_refl _) _) (Nat.le_refl _)
   ·exact HB3.out.alloc HB3.out.size _
  case round=>
   obtain ⟨pos,acc,rfl,hp,hal,hit,hown,hbel,hvd,hdec⟩:=hrel
   obtain ⟨ad,cp,rfl,_⟩:=ownI_cells hown
   have hKs:w.heap.size≤K:=by rw [HK.out];exact HB3.out.size
   have hKr:K<wr.heap.size:=(Array.getElem?_eq_some_iff.1 hit).1
   by_cases hps:pos<s.size
   ·have hne:s.data.toList.drop pos≠[]:=by
     intro h
     have:=congrArg List.length h
     rw [List.length_drop] at this
     simp at this
     omega
    have hgood:¬Ut.Bad (s.data.toList.drop pos):=fun hb=>by
     have:=Ut.validD_bad _ hne hb
     rw [hvd.out] at this
     cases this
    have hvs:=Ut.validD_good _ hne hgood
    have hds:=Ut.dec_step _ hne
    have hle:=Lib.decodeL_le _ hne
    have hw1:=Lib.decodeL_width (s.data.toList.drop pos)
    have hrn:=Lib.decodeL_rune (s.data.toList.drop pos)
    rw [List.length_drop] at hle
    have hsl:s.data.toList.length=s.size:=by simp
    rw [hsl] at hle
    have hnx:∀ty,(Instr.next (.pointer (some ⟨K,0,none⟩)) true ty).run Tryz.prog wr=_:=fun ty=>Lib.run_next_any_at wr K s pos ty hit hps
    rw [←Lib.decodeL_drop] at hnx
    have hit2:=Lib.iterAt_heap wr K s pos (pos+(Lib.decodeL (s.data.toList.drop pos)).2) hit
    have hown2:=hown.iterAt hit (pos+(Lib.decodeL (s.data.toList.drop pos)).2)
    have hbel2:=below_iterAt (s:=s) hbel hKs (pos+(Lib.decodeL (s.data.toList.drop pos)).2)
    rw [List.drop_drop] at hvs hds
    generalize hwd:(Lib.decodeL (s.data.toList.drop pos)).2=wd at *
    generalize hru:(Lib.decodeL (s.data.toList.drop pos)).1=ru at *
    have hsz2:(wr.iterAt K s (pos+wd)).heap.size=wr.heap.size:=by simp [World.iterAt]
    rw [←hsz2] at hKr
    have hv2:Hid (Lib.validD (s.data.toList.drop (pos+wd))=true):=by show _=_;rw [←hvs];exact hvd.out
    have hd2:Hid ((acc++[(ru:Int)])++Ut.dec (s.data.toList.drop (pos+wd))=Ut.dec s.data.toList):=by
     show _=_
     rw [←hdec.out,hds,List.append_assoc]
     rfl
    have H2:=lh (And.intro hit2 (And.intro hown2 hbel2))
    have hne2:=lh (hown2.ne_iter hit2)
    have HBX:=lh hbel2.size
    clear hgood hvs hds hne hown hbel hit hvd hdec hit2 hown2 hbel2 hsl hsz2 hwd hru
    generalize wr.iterAt K s (pos+wd)=wy at *
    go_wp2_with (at_builtin;go_loud ((refine wpList_pushI rfl _ _ rfl w.heap.size HBX.out (.slice ad acc.length cp) acc (ru:Int) rfl H2.out.2.1 rfl (by omega) ?_;intro v5 w5 hown5 hb5 hg5)))
    have hit5:w5.heap[K]?=some (.stringIter s (pos+wd)):=by
     rw [hg5.block K (by simp;omega) (fun h=>hne2.out K h.symm rfl)]
     exact (heap_alloc_old wy _ hKr).trans H2.out.1
    have H5:=lh (And.intro hit5 (And.intro hown5 (H2.out.2.2.trans hb5)))
    clear hit5 hown5 hb5 hg5
    go_wp2_with fail
    go_roundg (s.size-(pos+wd))
    case rel=>exact ⟨pos+wd,acc++[(ru:Int)],rfl,by omega,by simp;omega,H5.out.1,H5.out.2.1,H5.out.2.2,hv2,hd2⟩
    case measure=>omega
   ·have hnx:∀ty,(Instr.next (.pointer (some ⟨K,0,none⟩)) true ty).run Tryz.prog wr=_:=fun ty=>Lib.run_next_end_at wr K s pos ty hit hps
    have hfin:acc=Ut.dec s.data.toList:=by
     rw [←hdec.out,List.drop_of_length_le (by simp;omega),Ut.dec_nil,List.append_nil]
    have H5:=lh (And.intro hown hbel)
    have HF:=lh hfin
    clear hown hbel hit hvd hdec hfin
    go_wp2_with fail
    go_ret2
    exact ⟨_,ret_vi (by rw [h2.out]),by rw [h1.out,←HF.out];exact H5.out.1,H5.out.2⟩
end
section
open Go.RowKit
namespace Sp
end Sp
theorem RowG.cells {w:World} {g:Nat} {r:List (Int × Int)} (h:RowG w g r) (k:Nat) (hk:k<r.length):w.cell? ⟨g,k*2,none⟩=some (.int .i64 r[k].1)∧w.cell? ⟨g,k*2+1,none⟩=some (.int .i64 r[k].2):=by
 have a:=World.rowIs.cell h (i:=k*2) (by omega)
 have b:=World.rowIs.cell h (i:=k*2+1) (by omega)
 rw [Sp.cellAt_lo r k hk] at a
 rw [Sp.cellAt_hi r k hk] at b
 exact ⟨a,b⟩
end
section
open Go.RowKit
theorem RowsO.form {w:World} {B:Nat} {v:Value} {gs:List Nat} {L:List (List (Int × Int))} (h:RowsO w B v gs L):∃a cap,v=.slice a L.length cap∧L.length≤cap∧cap≤9223372036854775807∧(0<L.length→∃g,a=some ⟨g,0,none⟩∧B≤g∧g<w.heap.size ∧
  ∀j (h1:j<gs.length) (h2:j<L.length),w.cell? ⟨g,j,none⟩=some (.slice (some ⟨gs[j],0,none⟩) L[j].length L[j].length)):=by
 rcases h.own.2 with ⟨h1,h0⟩ | ⟨g,cap,cur,h1,hg,hh,hnc,hcp,hcs,htake⟩
 ·exact ⟨none,0,by rw [h1,h0],by omega,by omega,fun h=>by omega⟩
 ·subst h1
  have hown:w.ownsRow B 179 1 (.slice (some ⟨g,0,none⟩) L.length cap) L.length (rowVs gs L):=h.own
  refine ⟨_,cap,rfl,hnc,by unfold maxLen at hcp;omega,fun _=>⟨g,rfl,hg,(hown.lt g rfl).2,fun j a b=>?_⟩⟩
  rw [hown.cellAt j (by omega),rowVs_at j a b]
namespace Sp
end Sp
end
section
open Go.RowKit
theorem LoO.los {w:World} {B:Nat} {v:Value} {vals:List LoV} {L:List Au.Lo} (h:LoO w B v vals L) (F:Nat→Prop) (hF:∀g,B≤g→F g):LoS F w v L:=by
 have hl:=h.each.len
 rcases h.own.2 with ⟨h1,h0⟩ | ⟨g,cap,cur,h1,hg,hh,hnc,hcp,hcs,htake⟩
 ·exact ⟨none,0,by rw [h1,h0],by omega,by omega,fun h=>by omega⟩
 ·subst h1
  have hown:w.ownsRow B 152 3 (.slice (some ⟨g,0,none⟩) L.length cap) L.length (losV vals):=h.own
  refine ⟨_,cap,rfl,hnc,by unfold maxLen at hcp;omega,fun _=>⟨g,0,rfl,(hown.lt g rfl).2,hF g hg,fun j hj=>?_⟩⟩
  obtain ⟨a1,a2,a3⟩:=losV_at vals j (by omega)
  obtain ⟨e1,e2,e3⟩:=h.each.each j (by omega) hj
  rw [Nat.zero_add]
  refine ⟨?_,⟨vals[j].2.1,?_,e2.arcs F hF⟩,vals[j].2.2,?_,e3.nums F hF⟩
  ·rw [hown.cellAt _ (by omega),a1,e1]
  ·rw [hown.cellAt _ (by omega),a2]
  ·rw [hown.cellAt _ (by omega),a3]
def inB (i:Int) (n:Nat):Bool:=decide (0≤i∧i<n)
theorem isPlace_any5 (i:Int) (n:Nat) (w:World):Calls Tryz.prog 99 #[.int .i64 i,.int .i64 (n:Int)] w fun e w'=>e=.returned (.bool (inB i n))∧w=w':=by
 by_cases h1:0≤i
 ·by_cases h2:i<n
  ·have hd:Hid (inB i n=true):=decide_eq_true ⟨h1,h2⟩
   go_enter Tryz.func99,Tryz.ntmps99
   go_wp2_with fail
   go_ret
   exact ⟨ret_bool hd.out.symm,rfl⟩
  ·have hd:Hid (inB i n=false):=decide_eq_false fun h=>h2 h.2
   go_enter Tryz.func99,Tryz.ntmps99
   go_wp2_with fail
   go_ret
   exact ⟨ret_bool hd.out.symm,rfl⟩
 ·have hd:Hid (inB i n=false):=decide_eq_false fun h=>h1 h.1
  go_enter Tryz.func99,Tryz.ntmps99
  go_wp2_with fail
  go_ret
  exact ⟨ret_bool hd.out.symm,rfl⟩
end
namespace Sp
open Go.Lib
open Au (Arc Lo Star May has)
theorem addArc_free {n:List Lo} {p:Nat} {a:Arc} (h:∀s∈n,s.free=[]):∀s∈addArc n p a,s.free=[]:=fun s hs=>by
 obtain ⟨i,hi⟩:=List.mem_iff_getElem?.1 hs
 rw [addArc_at] at hi
 obtain ⟨s',h1,h2⟩:=Option.map_eq_some_iff.1 hi
 have:=h s' (List.mem_of_getElem? h1)
 split at h2 <;> (subst h2;exact this)
theorem chainL_free (q:Nat):∀(k:Nat) (rs:List (Int × Int)),∀s∈chainL q k rs,s.free=[]
 | _,[]=>fun s h=>by cases h
 | k,r :: rs=>fun s h=>by
  unfold chainL at h
  rcases List.mem_cons.1 h with rfl | h
  ·rfl
  ·exact chainL_free q (k+1) rs s h
theorem lead_bound {L:List Lo} {p q X:Nat} (hp:p<L.length) (hX:∀s∈L,s.arcs.length≤X∧s.free=[]):∀(m:Nat) (R:List (List (Int × Int))),R.length=m→(∀row∈R,0<row.length∧row.length≤4)→L.length≤(lead L p q R).length∧(lead L p q R).length≤L.length+3*m∧∀s∈lead L p q R,s.arcs.length≤X+1+m∧s.free=[]
 | 0,R,hR,_=>by
  obtain rfl:=List.length_eq_zero_iff.1 hR
  exact ⟨Nat.le_refl _,Nat.le_refl _,fun s hs=>⟨by have:=(hX s hs).1;omega,(hX s hs).2⟩⟩
 | m+1,R,hR,hr=>by
  obtain ⟨T,row,rfl⟩:∃T row,R=T++[row]:=⟨R.dropLast,R.getLast (by intro e;rw [e] at hR;simp at hR),(List.dropLast_concat_getLast _).symm⟩
  obtain ⟨i1,i2,i3⟩:=lead_bound (q:=q) hp hX m T (by simpa using hR) fun r h=>hr r (List.mem_append_left _ h)
  have hrow:=hr row (by simp)
  rw [lead_snoc]
  generalize lead L p q T=n at *
  obtain ⟨r,rs,rfl⟩:∃r rs,row=r :: rs:=by cases row with | nil=>exact absurd hrow.1 (by simp) | cons r rs=>exact ⟨r,rs,rfl⟩
  have hl:=hrow.2
  simp only [List.length_cons] at hl
  rw [leadBy_form q rs r n p (by omega)]
  refine ⟨by rw [List.length_append,addArc_length];omega,by rw [List.length_append,addArc_length,chainL_length];omega,fun s hs=>?_⟩
  rcases List.mem_append.1 hs with hs | hs
  ·refine ⟨?_,addArc_free (fun s hs=>(i3 s hs).2) s hs⟩
   obtain ⟨i,hi⟩:=List.mem_iff_getElem?.1 hs
   rw [addArc_at] at hi
   obtain ⟨s',h1,h2⟩:=Option.map_eq_some_iff.1 hi
   have:=(i3 s' (List.mem_of_getElem? h1)).1
   split at h2
   ·subst h2
    simp only [List.length_append,List.length_singleton]
    omega
   ·subst h2
    omega
  ·refine ⟨?_,chainL_free q _ _ s hs⟩
   obtain ⟨i,hi⟩:=List.mem_iff_getElem?.1 hs
   have hlt:=(List.getElem?_eq_some_iff.1 hi).1
   rw [chainL_length] at hlt
   rw [chainL_at q _ _ i hlt] at hi
   cases hi
   show 1≤X+1+(m+1)
   omega
end Sp
namespace Wl
open Go.Lib
open Au (Arc Lo Star May has)
open Sp (rows lead Path Shape)
theorem rows_four (lo hi:Int):∀row∈rows lo hi,0<row.length∧row.length≤4:=fun _ h=>⟨(Sp.rows_shape h).pos,(Sp.rows_shape h).len⟩
theorem step_bound {m:Nat} {s:Nat × Bool × List Lo} {c:Int} {X Y:Nat} (h1:s.1<m) (h2:m≤s.2.2.length) (h3:s.2.2.length≤Y) (h4:∀x∈s.2.2,x.arcs.length≤X∧x.free=[]):
  m≤(stepA s c).2.2.length∧(stepA s c).2.2.length≤Y+27∧∀x∈(stepA s c).2.2,x.arcs.length≤X+10∧x.free=[]:=by
 have key:∀(q:Nat) (lo hi:Int),(rows lo hi).length≤9→m≤(lead s.2.2 s.1 q (rows lo hi)).length∧(lead s.2.2 s.1 q (rows lo hi)).length≤Y+27∧∀x∈lead s.2.2 s.1 q (rows lo hi),x.arcs.length≤X+10∧x.free=[]:=fun q lo hi hr=>by
  obtain ⟨k1,k2,k3⟩:=Sp.lead_bound (q:=q) (by omega:s.1<s.2.2.length) h4 _ (rows lo hi) rfl (rows_four lo hi)
  exact ⟨by omega,by omega,fun x hx=>⟨by have:=(k3 x hx).1;omega,(k3 x hx).2⟩⟩
 unfold stepA
 split
 ·show m≤(if s.2.1=true then s.2.2 else _).length∧(if s.2.1=true then s.2.2 else _).length≤_∧∀x∈(if s.2.1=true then s.2.2 else _),_
  split
  ·exact ⟨h2,by omega,fun x hx=>⟨by have:=(h4 x hx).1;omega,(h4 x hx).2⟩⟩
  ·exact key _ _ _ (by rw [Sp.rows_full];decide)
 ·exact key _ _ _ (rows_nine c)
theorem run_bound (m:Nat):∀(xs:List Int),nots xs<m→m≤(runA m xs).2.2.length∧(runA m xs).2.2.length≤m+27*xs.length∧∀x∈(runA m xs).2.2,x.arcs.length≤10*xs.length∧x.free=[]:=by
 have key:∀(k:Nat) (xs:List Int),xs.length=k→nots xs<m→m≤(runA m xs).2.2.length∧(runA m xs).2.2.length≤m+27*xs.length∧∀x∈(runA m xs).2.2,x.arcs.length≤10*xs.length∧x.free=[]:=by
  intro k
  induction k with
  | zero=>
   intro xs hx _
   obtain rfl:=List.length_eq_zero_iff.1 hx
   show m≤(blank m).length∧_∧∀x∈blank m,_
   refine ⟨by simp [blank],by simp [runA,blank],fun x hx=>?_⟩
   have:=(List.mem_replicate.1 hx).2
   subst this
   exact ⟨by simp,rfl⟩
  | succ k ih=>
   intro xs hx hn
   obtain ⟨T,c,rfl⟩:∃T c,xs=T++[c]:=⟨xs.dropLast,xs.getLast (by intro e;rw [e] at hx;simp at hx),(List.dropLast_concat_getLast _).symm⟩
   rw [nots_append] at hn
   obtain ⟨i1,i2,i3⟩:=ih T (by simpa using hx) (by omega)
   have e:runA m (T++[c])=stepA (runA m T) c:=by unfold runA;rw [List.foldl_append];rfl
   rw [e,List.length_append,List.length_singleton]
   obtain ⟨j1,j2,j3⟩:=step_bound (c:=c) (m:=m) (s:=runA m T) (by rw [runA_at];omega) i1 i2 i3
   exact ⟨j1,by omega,fun x hx=>⟨by have:=(j3 x hx).1;omega,(j3 x hx).2⟩⟩
 exact fun xs h=>key _ xs rfl h
theorem auto_bound (xs:List Int) (h:xs.length≤17):nots xs<(auto xs).length∧(auto xs).length≤500∧∀x∈auto xs,x.arcs.length≤170∧x.free=[]:=by
 have hn:=nots_le xs
 obtain ⟨h1,h2,h3⟩:=run_bound (nots xs+1) xs (by omega)
 unfold auto
 rw [setF_length]
 refine ⟨by omega,by omega,fun x hx=>?_⟩
 obtain ⟨i,hi⟩:=List.mem_iff_getElem?.1 hx
 rw [setF_at] at hi
 obtain ⟨s',g1,g2⟩:=Option.map_eq_some_iff.1 hi
 have:=h3 s' (List.mem_of_getElem? g1)
 split at g2 <;> (subst g2;exact ⟨by show s'.arcs.length≤_;omega,this.2⟩)
theorem sum_le (X:Nat):∀(n:List Lo),(∀x∈n,x.arcs.length≤X)→(n.map fun s=>s.arcs.length).sum≤n.length*X
 | [],_=>by simp
 | s :: n,h=>by
  have h1:=h s (by simp)
  have h2:=sum_le X n fun x hx=>h x (by simp [hx])
  simp only [List.map_cons,List.sum_cons,List.length_cons]
  rw [Nat.succ_mul]
  omega
theorem auto_rows (xs:List Int) (h:xs.length≤17) (S:List Bool):(Au.rowsOf (auto xs) S).flatten.length≤1099511627776:=by
 obtain ⟨h1,h2,h3⟩:=auto_bound xs h
 have h4:=Au.rows_sum (auto xs) S
 have h5:=sum_le 170 (auto xs) fun x hx=>(h3 x hx).1
 have h6:(auto xs).length*170≤500*170:=Nat.mul_le_mul_right _ h2
 omega
def okC (marks:List UInt8) (c:Int):Bool:=Ut.letter c||marks.any fun b=>decide (c=(b.toNat:Int))
def letE (l marks:List UInt8):Int:=if Ut.decE l=0 then (if 16<(Ut.decS l).length then 4 else if (Ut.decS l).length=0 then 20 else if ((Ut.decS l).map Ut.fold).all (okC marks)=true then 0 else 20) else Ut.decE l
def letS (l marks:List UInt8):List Int:=if letE l marks=0 then (Ut.decS l).map Ut.fold else []
def wide (xs:List Int):Bool:=match Lib.idxOf xs 42 with
 | .ofNat k=>(xs.drop k).contains 63&&decide (8<nots (xs.drop k))
 | .negSucc _=>false
end Wl
section
open Go.RowKit
namespace Ut
def fFold (xs:List Int) (k:Nat):Nat→Value:=fun j=>.int .i64 (if j<k then fold (xs.getD j 0) else 0)
theorem fFold_step (xs:List Int) (k:Nat) (hk:k<xs.length) (j:Nat):(if j=k then Value.int .i64 (fold xs[k]) else fFold xs k j)=fFold xs (k+1) j:=by
 unfold fFold
 by_cases e:j=k
 ·subst e
  rw [if_pos rfl,if_pos (by omega),List.getD_eq_getElem?_getD,List.getElem?_eq_getElem hk]
  rfl
 ·rw [if_neg e]
  by_cases h:j<k
  ·rw [if_pos h,if_pos (by omega)]
  ·rw [if_neg h,if_neg (by omega)]
end Ut
theorem foldedOf_any (w:World) (v:Value) (xs:List Int) (hv:IntS w v xs) (hx:xs.length≤17592186044416):
  Calls Tryz.prog 95 #[v] w fun e w'=>∃v',e=.returned v'∧OwnI w' w.heap.size v' (xs.map Ut.fold)∧Below w.heap.size w w':=by
 obtain ⟨a,cap,rfl,_,_,hv⟩:=hv
 have HV:=lh hv
 clear hv
 obtain ⟨n,hn⟩:∃n,n=xs.length:=⟨_,rfl⟩
 have HN:=lh hn
 rw [←hn] at hx ⊢
 clear hn
 have hmk:=run_make_row' (P:=Tryz.prog) 82 3 (.int .i64 0) 8 Tryz.underlying82 Tryz.infoI rfl .i64 .i64 n (by omega) (by omega)
 go_enter Tryz.func95,Tryz.ntmps95
 go_wp2_with fail
 have HR:Hid ((w.alloc (.cells (madeCells #[.int .i64 0] n) 3)).rowIs w.heap.size 3 n (Ut.fFold xs 0)):=World.rowIs_made w (.int .i64 0) n 3
 have HB:Hid (Below w.heap.size w (w.alloc (.cells (madeCells #[.int .i64 0] n) 3))):=(Below.refl _ _).alloc (Nat.le_refl _) _
 generalize w.alloc (.cells (madeCells #[.int .i64 0] n) 3)=w1 at *
 clear hmk
 obtain ⟨B,hB⟩:∃B,B=w.heap.size:=⟨_,rfl⟩
 have HBe:=lh hB
 rw [←hB] at HR ⊢
 clear hB
 go_loopg [11] n (fun g i wx=>∃k:Nat,k≤n∧g=n-k∧i=.int .i64 k∧Hid (wx.rowIs B 3 n (Ut.fFold xs k))∧Below w.heap.size w wx)
 case atStart=>exact ⟨0,Nat.zero_le _,rfl,rfl,HR.out,HB.out⟩
 case round=>
  obtain ⟨k,hk,rfl,rfl,hrow,hbel⟩:=hrel
  by_cases hkn:k<n
  ·have i1:(k:Int)<(n:Int):=by omega
   have kx:k<xs.length:=by rw [←HN.out];exact hkn
   obtain ⟨g,o,rfl,hg,hcu⟩:=HV.out (by omega)
   have c1:wr.cell? ⟨g,o+k,none⟩=some (.int .i64 xs[k]):=(hbel.cell (p:=⟨g,o+k,none⟩) hg).trans (hcu k kx)
   have c2:=hrow.out.cell hkn
   have f2:=hrow.out.frozen k
   have hF:=lh (fold_any xs[k] wr)
   have hrow2:Hid ((wr.setCell ⟨B,k,none⟩ (.int .i64 (Ut.fold xs[k]))).rowIs B 3 n (Ut.fFold xs (k+1))):=
    (hrow.out.set k _).congr fun j _=>Ut.fFold_step xs k kx j
   have hbel2:Hid (Below w.heap.size w (wr.setCell ⟨B,k,none⟩ (.int .i64 (Ut.fold xs[k])))):=hbel.setCell (p:=⟨B,k,none⟩) (by show w.heap.size≤B;rw [HBe.out];exact Nat.le_refl _) _
   generalize Ut.fold xs[k]=d at *
   generalize xs[k]=c at *
   clear hcu hrow hbel
   go_wp2_with fail
   refine hF.out.mono ?_
   rintro e w2 ⟨rfl,rfl⟩
   go_wp2_with fail
   go_roundg (n-(k+1))
   case rel=>exact ⟨k+1,by omega,rfl,by go_num,hrow2,hbel2.out⟩
   case measure=>omega
  ·obtain rfl:k=n:=by omega
   have i1:¬(k:Int)<(k:Int):=by omega
   have hfin:Hid (OwnI wr w.heap.size (.slice (some ⟨B,0,none⟩) k k) (xs.map Ut.fold)):=by
    obtain ⟨c,h1,h2,h3⟩:=hrow.out
    refine ⟨by simp [intsV5],.inr ⟨B,k,c,by rw [List.length_map,←HN.out],by rw [HBe.out];exact Nat.le_refl _,h1,by rw [List.length_map,←HN.out];exact Nat.le_refl _,by unfold maxLen;omega,by omega,?_⟩⟩
    rw [List.length_map,←HN.out,Nat.mul_one,List.take_of_length_le (by rw [Array.length_toList,h2];exact Nat.le_refl _)]
    apply List.ext_getElem?
    intro j
    by_cases hj:j<k
    ·have hjx:j<xs.length:=by rw [←HN.out];exact hj
     rw [Array.getElem?_toList,h3 j hj]
     simp [intsV5,Ut.fFold,hj,hjx]
    ·rw [List.getElem?_eq_none (by rw [Array.length_toList,h2];omega),List.getElem?_eq_none (by simp [intsV5];rw [←HN.out];omega)]
   have HBE:=lh hbel
   clear hrow hbel
   go_wp2_with fail
   go_ret
   exact ⟨_,rfl,hfin.out,HBE.out⟩
end
section
open Go.RowKit
def FoldPost (w:World) (l:List UInt8) (e:Ending) (w':World):Prop:=
 ∃v,e=.returned (.tuple #[v,.int .i64 (Ut.decE l)])∧OwnI w' w.heap.size v ((Ut.decS l).map Ut.fold)∧Below w.heap.size w w'
theorem OwnI.base {w:World} {B C:Nat} {v:Value} {l:List Int} (h:OwnI w B v l) (hC:C≤B):OwnI w C v l:=by
 refine ⟨h.1,?_⟩
 rcases h.2 with h1 | ⟨g,cap,cur,h1,hg,hr⟩
 ·exact .inl h1
 ·exact .inr ⟨g,cap,cur,h1,Nat.le_trans hC hg,hr⟩
theorem folded_any (w:World) (s:ByteArray) (hT:Tabs w) (hs:s.size≤17592186044415):Calls Tryz.prog 72 #[.string s] w (FoldPost w s.data.toList):=by
 have hd:=decode_any w s hT (by omega)
 have hln:=Ut.decS_length s.data.toList
 rw [show s.data.toList.length=s.size from by simp] at hln
 have hno:¬Ut.decE s.data.toList=0→Ut.decS s.data.toList=[]:=by
  intro h
  cases hv:Lib.validD s.data.toList
  ·exact Ut.decS_no hv
  ·exact absurd (Ut.decE_yes hv) h
 unfold DecPost at hd
 unfold FoldPost
 generalize Ut.decE s.data.toList=E at *
 generalize Ut.decS s.data.toList=L at *
 have HD:=lh hd
 clear hd hT
 by_cases h0:E=0
 ·subst h0
  clear hno
  go_enter Tryz.func72,Tryz.ntmps72
  go_wp2_with fail
  refine HD.out.mono ?_
  rintro e w1 ⟨v,rfl,hown,hb⟩
  have hF:=lh (foldedOf_any w1 v L (hown.ints (by omega)) (by omega))
  have HB:=lh hb
  clear hown hb
  go_wp2_with fail
  refine hF.out.mono ?_
  rintro e w2 ⟨v2,rfl,hown2,hb2⟩
  have HO2:Hid (OwnI w2 w.heap.size v2 (L.map Ut.fold)):=hown2.base HB.out.size
  have HB2:Hid (Below w.heap.size w w2):=HB.out.trans (hb2.mono HB.out.size)
  clear hown2 hb2
  go_wp2_with fail
  go_ret2
  exact ⟨_,rfl,HO2.out,HB2.out⟩
 ·have h1:(E != 0)=true:=by simpa using h0
  have HN:=lh (hno h0)
  clear hno
  go_enter Tryz.func72,Tryz.ntmps72
  go_wp2_with fail
  refine HD.out.mono ?_
  rintro e w1 ⟨v,rfl,_,hb⟩
  have HB:=lh hb
  clear hb
  go_wp2_with fail
  go_ret2
  exact ⟨_,rfl,by rw [HN.out];exact World.ownsRow_nil _ _ _ _,HB.out⟩
end
section
open Go.RowKit
theorem index_iff (l:List UInt8) (c:UInt8):0≤Lib.indexByte l c↔c∈l:=by
 induction l with
 | nil=>simp [Lib.indexByte]
 | cons b l ih=>
  have h1:=Lib.indexByte_ge l c
  unfold Lib.indexByte
  by_cases h:b=c
  ·simp [h]
  ·have e1:(b==c)=false:=by simpa using h
   rw [e1]
   by_cases h2:Lib.indexByte l c = -1
   ·have:¬c∈l:=fun hc=>by have:=ih.2 hc;omega
    simp [h2,this,Ne.symm h]
   ·have e2:(Lib.indexByte l c == -1)=false:=by simpa using h2
    have:c∈l:=ih.1 (by omega)
    rw [e2]
    simp only [Bool.false_eq_true,if_false]
    exact ⟨fun _=>by simp [this],fun _=>by omega⟩
namespace Wl
def mark (m:List UInt8) (c:Int):Bool:=m.any fun b=>decide (c=(b.toNat:Int))
theorem okC_eq (m:List UInt8) (c:Int):okC m c=(Ut.letter c||mark m c):=rfl
theorem mark_index {m:List UInt8} {c:Int} (h0:0≤c) (h1:c≤255):mark m c=decide (0≤Lib.indexByte m c.toNat.toUInt8):=by
 rw [Bool.eq_iff_iff,decide_eq_true_iff,index_iff]
 unfold mark
 rw [List.any_eq_true]
 have hb:((c.toNat.toUInt8).toNat:Int)=c:=Ut.byteI c h0 (by omega)
 constructor
 ·rintro ⟨b,hb1,hb2⟩
  have hb2:c=(b.toNat:Int):=of_decide_eq_true hb2
  have:b=c.toNat.toUInt8:=by
   rw [hb2]
   simp
  rw [←this]
  exact hb1
 ·intro h
  exact ⟨_,h,decide_eq_true hb.symm⟩
theorem mark_far {m:List UInt8} {c:Int} (h:255<c):mark m c=false:=by
 unfold mark
 rw [List.any_eq_false]
 intro b _
 have:=b.toNat_lt
 simp
 omega
theorem nots_step {xs:List Int} {k:Nat} (h:k<xs.length):nots (xs.take (k+1))=nots (xs.take k)+if xs[k]=42 then 0 else 1:=by
 rw [List.take_succ_eq_append_getElem h,nots_append,nots_cons]
 rfl
end Wl
theorem isMark_any (c:Int) (m:ByteArray) (h0:0≤c) (w:World):
  Calls Tryz.prog 74 #[.int .i64 c,.string m] w fun e w'=>e=.returned (.bool (Wl.mark m.data.toList c))∧w=w':=by
 by_cases h1:c≤255
 ·have hx:IntKind.u8.wrap c=c:=by simp [IntKind.wrap,IntKind.bits,IntKind.signed];omega
  have hm:=Wl.mark_index (m:=m.data.toList) h0 h1
  have HS:=lh (fun w=>Tryz.strings_IndexByte m c w)
  rw [hm]
  generalize Lib.indexByte m.data.toList c.toNat.toUInt8=x at *
  clear hm
  go_enter Tryz.func74,Tryz.ntmps74
  go_wp2_with fail
  refine (HS.out w).mono ?_
  rintro e w' ⟨rfl,rfl⟩
  by_cases h2:0≤x
  ·have hd:Hid (decide (0≤x)=true):=decide_eq_true h2
   go_wp2_with fail
   go_ret
   exact ⟨ret_bool hd.out.symm,rfl⟩
  ·have hd:Hid (decide (0≤x)=false):=decide_eq_false h2
   go_wp2_with fail
   go_ret
   exact ⟨rfl,rfl⟩
 ·have hd:=lh (Wl.mark_far (m:=m.data.toList) (by omega:255<c))
  go_enter Tryz.func74,Tryz.ntmps74
  go_wp2_with fail
  go_ret
  exact ⟨ret_bool hd.out.symm,rfl⟩
theorem notStars_any (v:Value) (xs:List Int) (hx:xs.length≤1099511627776) (w:World) (hv:IntS w v xs):
  Calls Tryz.prog 77 #[v] w fun e w'=>e=.returned (.int .i64 (Wl.nots xs:Int))∧w=w':=by
 obtain ⟨a,cap,rfl,_,_,hv⟩:=hv
 have HV:=lh hv
 clear hv
 obtain ⟨n,hn⟩:∃n,n=xs.length:=⟨_,rfl⟩
 have HN:=lh hn
 rw [←hn] at hx ⊢
 clear hn
 go_enter Tryz.func77,Tryz.ntmps77
 go_wp2_with fail
 go_loopg [3,8] n (fun g c i wx=>∃(k t:Nat),wx=w∧k≤n∧g=n-k∧c=.int .i64 t∧i=.int .i64 k∧t≤k∧Hid (t=Wl.nots (xs.take k)))
 case atStart=>exact ⟨0,0,rfl,Nat.zero_le _,rfl,rfl,rfl,Nat.le_refl _,rfl⟩
 case round=>
  obtain ⟨k,t,rfl,hk,rfl,rfl,rfl,ht,hT⟩:=hrel
  by_cases hkn:k<n
  ·have i1:(k:Int)<(n:Int):=by omega
   have kx:k<xs.length:=by rw [←HN.out];exact hkn
   obtain ⟨g,o,rfl,hg,hcu⟩:=HV.out (by omega)
   have c1:=hcu k kx
   have HST:=lh (Wl.nots_step kx)
   clear hcu
   generalize xs[k]=x at *
   by_cases h2:x=42
   ·have hf:Hid (t=Wl.nots (xs.take (k+1))):=by show _=_;rw [HST.out,if_pos h2,hT.out];rfl
    clear HST hT
    subst h2
    go_wp2_with fail
    go_roundg (n-(k+1))
    case rel=>exact ⟨k+1,t,rfl,by omega,rfl,rfl,by go_num,by omega,hf⟩
    case measure=>omega
   ·have hf:Hid (t+1=Wl.nots (xs.take (k+1))):=by show _=_;rw [HST.out,if_neg h2,hT.out]
    clear HST hT
    go_wp2_with fail
    go_roundg (n-(k+1))
    case rel=>exact ⟨k+1,t+1,rfl,by omega,rfl,by go_num,by go_num,by omega,hf⟩
    case measure=>omega
  ·obtain rfl:k=n:=by omega
   have i1:¬(k:Int)<(k:Int):=by omega
   have hf:Hid (t=Wl.nots xs):=by
    show _=_
    rw [hT.out,List.take_of_length_le (by rw [←HN.out];omega)]
   clear hT
   go_wp2_with fail
   go_ret
   exact ⟨by rw [hf.out];rfl,rfl⟩
theorem chars_of (c:Int) (w:World):
  Calls Tryz.prog 78 #[.int .i64 c] w fun e w'=>e=.returned (.tuple #[.int .i64 (Wl.rng c).1,.int .i64 (Wl.rng c).2])∧w=w':=by
 by_cases h:c=63
 ·subst h
  go_enter Tryz.func78,Tryz.ntmps78
  go_wp2_with fail
  go_ret2
  exact ⟨rfl,rfl⟩
 ·have e:Hid (Wl.rng c=(c,c)):=if_neg h
  go_enter Tryz.func78,Tryz.ntmps78
  go_wp2_with fail
  go_ret2
  exact ⟨by rw [e.out];rfl,rfl⟩
namespace Wl
theorem idx_cases (xs:List Int) (x:Int):(Lib.idxOf xs x = -1∧x∉xs)∨∃k:Nat,Lib.idxOf xs x=(k:Int)∧k<xs.length∧xs[k]?=some x:=by
 have key:∀(xs:List Int) (i:Nat),(Lib.idxFrom xs x i = -1∧x∉xs)∨∃k:Nat,Lib.idxFrom xs x i=((i+k:Nat):Int)∧k<xs.length∧xs[k]?=some x:=by
  intro xs
  induction xs with
  | nil=>intro i;exact .inl ⟨rfl,by simp⟩
  | cons y ys ih=>
   intro i
   by_cases h:y=x
   ·exact .inr ⟨0,by simp [Lib.idxFrom,h],by simp,by simp [h]⟩
   ·have e:Lib.idxFrom (y :: ys) x i=Lib.idxFrom ys x (i+1):=by simp [Lib.idxFrom,h]
    rw [e]
    rcases ih (i+1) with ⟨h1,h2⟩ | ⟨k,h1,h2,h3⟩
    ·exact .inl ⟨h1,by simp [Ne.symm h,h2]⟩
    ·exact .inr ⟨k+1,by rw [h1,show i+1+k=i+(k+1) by omega],by simpa using h2,by simpa using h3⟩
 rcases key xs 0 with h | ⟨k,h1,h2,h3⟩
 ·exact .inl h
 ·exact .inr ⟨k,by rw [Nat.zero_add] at h1;exact h1,h2,h3⟩
end Wl
theorem IntS.drop {w:World} {a:Option Addr} {xs:List Int} {cap k:Nat} (h:IntS w (.slice a xs.length cap) xs) (hk:k<xs.length):∃g o,a=some ⟨g,o,none⟩∧IntS w (.slice (some ⟨g,o+k,none⟩) (xs.length-k) (cap-k)) (xs.drop k)∧xs.length≤cap∧cap≤9223372036854775807:=by
 obtain ⟨a',cap',e,h1,h2,h3⟩:=h
 obtain ⟨rfl,_,rfl⟩:a=a'∧True∧cap=cap':=by injection e with e1 e2 e3;exact ⟨e1,trivial,e3⟩
 obtain ⟨g,o,rfl,hg,hc⟩:=h3 (by omega)
 have hl:(xs.drop k).length=xs.length-k:=List.length_drop
 refine ⟨g,o,rfl,⟨some ⟨g,o+k,none⟩,cap-k,by rw [hl],by omega,by omega,fun _=>⟨g,o+k,rfl,hg,fun j hj=>?_⟩⟩,h1,h2⟩
 rw [hl] at hj
 have:=hc (k+j) (by omega)
 rw [List.getElem_drop,Nat.add_assoc]
 exact this
end
section
open Go.RowKit
namespace Wl
theorem letE_no {l m:List UInt8} (h:¬Ut.decE l=0):letE l m=Ut.decE l:=by unfold letE;rw [if_neg h]
theorem letE_yes {l m:List UInt8} (h:Ut.decE l=0):letE l m=if 16<(Ut.decS l).length then 4 else if (Ut.decS l).length=0 then 20 else if ((Ut.decS l).map Ut.fold).all (okC m)=true then 0 else 20:=by unfold letE;rw [if_pos h]
theorem letS_no {l m:List UInt8} (h:¬letE l m=0):letS l m=[]:=if_neg h
theorem fold_whole (l:List UInt8):∀c∈(Ut.decS l).map Ut.fold,Ut.whole c=true:=fun c hc=>by
 obtain ⟨d,hd,rfl⟩:=List.mem_map.1 hc
 refine Ut.whole_fold d ?_
 by_cases hv:Lib.validD l=true
 ·rw [Ut.decS_yes hv] at hd
  exact Ut.allW_iff.1 (Ut.enc_dec l.length l (Nat.le_refl _) hv).2 d hd
 ·rw [Ut.decS_no (by simpa using hv)] at hd
  cases hd
end Wl
def LetPost (w:World) (l m:List UInt8) (e:Ending) (w':World):Prop:=
 ∃v,e=.returned (.tuple #[v,.int .i64 (Wl.letE l m)])∧OwnI w' w.heap.size v (Wl.letS l m)∧Below w.heap.size w w'
theorem letters_any (w:World) (s m:ByteArray) (hT:Tabs w) (hs:s.size≤17592186044415):Calls Tryz.prog 46 #[.string s,.string m] w (LetPost w s.data.toList m.data.toList):=by
 have hd:=folded_any w s hT hs
 have hln:=Ut.decS_length s.data.toList
 rw [show s.data.toList.length=s.size from by simp] at hln
 have HE0:=lh (fun h=>@Wl.letE_no s.data.toList m.data.toList h)
 have HE1:=lh (fun h=>@Wl.letE_yes s.data.toList m.data.toList h)
 have HS0:=lh (fun h=>@Wl.letS_no s.data.toList m.data.toList h)
 have HS1:Hid (Wl.letE s.data.toList m.data.toList=0→Wl.letS s.data.toList m.data.toList=(Ut.decS s.data.toList).map Ut.fold):=fun h=>if_pos h
 have HW:=lh (Wl.fold_whole s.data.toList)
 unfold FoldPost at hd
 unfold LetPost
 have hnl:((Ut.decS s.data.toList).map Ut.fold).length=(Ut.decS s.data.toList).length:=List.length_map _
 generalize Ut.decE s.data.toList=E at *
 generalize (Ut.decS s.data.toList).map Ut.fold=L at *
 generalize (Ut.decS s.data.toList).length=n at *
 generalize Wl.letE s.data.toList m.data.toList=E' at *
 generalize Wl.letS s.data.toList m.data.toList=S' at *
 have HD:=lh hd
 have HN:=lh hnl
 clear hd hT hnl
 go_enter Tryz.func46,Tryz.ntmps46
 go_wp2_with fail
 refine HD.out.mono ?_
 rintro e w1 ⟨v,rfl,hown,hb⟩
 obtain ⟨a,c,rfl,_⟩:=ownI_cells hown
 have HI:=lh (hown.ints (by rw [HN.out];omega))
 have HO:=lh hown
 have HB:=lh hb
 rw [HN.out]
 clear hown hb
 by_cases h0:E=0
 ·subst h0
  by_cases h1:16<n
  ·have h2:(16:Int)<(n:Int):=by omega
   have he:Hid (E'=4):=by show _=_;rw [HE1.out rfl,if_pos h1]
   have hs':Hid (S'=[]):=HS0.out (by rw [he.out];decide)
   clear HE0 HE1 HS0 HS1
   go_wp2_with fail
   go_ret2
   exact ⟨_,by rw [he.out];rfl,by rw [hs'.out];exact World.ownsRow_nil _ _ _ _,HB.out⟩
  ·have h2:¬(16:Int)<(n:Int):=by omega
   by_cases h3:n=0
   ·have he:Hid (E'=20):=by show _=_;rw [HE1.out rfl,if_neg h1,if_pos h3]
    have hs':Hid (S'=[]):=HS0.out (by rw [he.out];decide)
    clear HE0 HE1 HS0 HS1
    subst h3
    go_wp2_with fail
    go_ret2
    exact ⟨_,by rw [he.out];rfl,by rw [hs'.out];exact World.ownsRow_nil _ _ _ _,HB.out⟩
   ·have h4:((n:Int)==0)=false:=by simpa using h3
    have HA:Hid (E'=if L.all (Wl.okC m.data.toList)=true then 0 else 20):=by show _=_;rw [HE1.out rfl,if_neg h1,if_neg h3]
    clear HE0 HE1
    go_wp2_with fail
    go_loopg [29] n (fun g i wx=>∃k:Nat,wx=w1∧k≤n∧g=n-k∧i=.int .i64 k∧Hid ((L.take k).all (Wl.okC m.data.toList)=true))
    case atStart=>exact ⟨0,rfl,Nat.zero_le _,rfl,rfl,rfl⟩
    case round=>
     obtain ⟨k,rfl,hk,rfl,rfl,hA⟩:=hrel
     by_cases hkn:k<n
     ·have i1:(k:Int)<(n:Int):=by omega
      have kx:k<L.length:=by rw [HN.out];exact hkn
      obtain ⟨a',cap',e',_,_,hcu⟩:=HI.out
      cases e'
      obtain ⟨g,o,rfl,hg,hcu⟩:=hcu (by omega)
      have c1:=hcu k kx
      have HL:=lh (letter_any L[k] wr)
      have hwh:=Ut.whole_iff.1 (HW.out L[k] (List.getElem_mem kx))
      have HM:=lh (isMark_any L[k] m (by omega) wr)
      have HST:Hid ((L.take (k+1)).all (Wl.okC m.data.toList)=(Ut.letter L[k]||Wl.mark m.data.toList L[k])):=by
       show _=_
       rw [List.take_succ_eq_append_getElem kx,List.all_append,hA.out,List.all_cons,List.all_nil,Bool.and_true,Bool.true_and]
       rfl
      have HNO:Hid (Ut.letter L[k]=false→Wl.mark m.data.toList L[k]=false→L.all (Wl.okC m.data.toList)=false):=fun q1 q2=>by
       rw [List.all_eq_false]
       exact ⟨L[k],List.getElem_mem kx,by rw [Wl.okC_eq,q1,q2];simp⟩
      clear hcu hwh hA
      generalize Ut.letter L[k]=b1 at *
      generalize Wl.mark m.data.toList L[k]=b2 at *
      generalize L[k]=x at *
      cases b1 with
      | true=>
       have hf:Hid ((L.take (k+1)).all (Wl.okC m.data.toList)=true):=by show _=_;rw [HST.out];rfl
       clear HST HNO
       go_wp2_with fail
       refine HL.out.mono ?_
       rintro e w2 ⟨rfl,rfl⟩
       go_wp2_with fail
       go_roundg (n-(k+1))
       case rel=>exact ⟨k+1,rfl,by omega,rfl,by go_num,hf⟩
       case measure=>omega
      | false=>
       go_wp2_with fail
       refine HL.out.mono ?_
       rintro e w2 ⟨rfl,rfl⟩
       cases b2 with
       | true=>
        have hf:Hid ((L.take (k+1)).all (Wl.okC m.data.toList)=true):=by show _=_;rw [HST.out];rfl
        clear HST HNO
        go_wp2_with fail
        refine HM.out.mono ?_
        rintro e w2 ⟨rfl,rfl⟩
        go_wp2_with fail
        go_roundg (n-(k+1))
        case rel=>exact ⟨k+1,rfl,by omega,rfl,by go_num,hf⟩
        case measure=>omega
       | false=>
        have he:Hid (E'=20):=by show _=_;rw [HA.out,HNO.out (by trivial) (by trivial)];rfl
        have hs':Hid (S'=[]):=HS0.out (by rw [he.out];decide)
        clear HST HNO
        go_wp2_with fail
        refine HM.out.mono ?_
        rintro e w2 ⟨rfl,rfl⟩
        go_wp2_with fail
        go_ret2
        exact ⟨_,by rw [he.out];rfl,by rw [hs'.out];exact World.ownsRow_nil _ _ _ _,HB.out⟩
     ·obtain rfl:k=n:=by omega
      have i1:¬(k:Int)<(k:Int):=by omega
      rw [List.take_of_length_le (by rw [HN.out];exact Nat.le_refl _)] at hA
      have he:Hid (E'=0):=by show _=_;rw [HA.out,hA.out];rfl
      have hs':Hid (S'=L):=HS1.out he.out
      clear hA
      go_wp2_with fail
      go_ret2
      exact ⟨_,by rw [he.out];rfl,by rw [hs'.out];have:=HO.out;rw [HN.out] at this;exact this,HB.out⟩
 ·have h1:(E != 0)=true:=by simpa using h0
  have he:=lh (HE0.out h0)
  have hs':Hid (S'=[]):=HS0.out (by rw [he.out];exact h0)
  clear HE0 HE1 HS0 HS1
  go_wp2_with fail
  go_ret2
  exact ⟨_,by rw [he.out];rfl,by rw [hs'.out];exact World.ownsRow_nil _ _ _ _,HB.out⟩
end
section
open Go.RowKit
theorem index_any (v:Value) (xs:List Int) (x:Int) (w:World) (hv:IntS w v xs) (hl:xs.length≤1099511627776):
  Calls Tryz.prog 75 #[v,.int .i64 x] w fun e w'=>e=.returned (.int .i64 (Lib.idxOf xs x))∧w'=w:=by
 obtain ⟨a,cap,rfl,_,_,hc⟩:=hv
 by_cases h0:xs.length=0
 ·obtain rfl:=List.length_eq_zero_iff.1 h0
  exact Tryz.slices_Index_int_empty a cap x w
 ·obtain ⟨g,o,rfl,_,hc⟩:=hc (by omega)
  have:=Tryz.slices_Index_int g o xs.length cap xs x w (Nat.le_refl _) (by omega) fun j hj=>by
   rw [hc j hj,List.getD_eq_getElem?_getD,List.getElem?_eq_getElem hj]
   rfl
  rw [List.take_of_length_le (Nat.le_refl _)] at this
  exact this
theorem contains_any (v:Value) (xs:List Int) (x:Int) (w:World) (hv:IntS w v xs) (hl:xs.length≤1099511627776):
  Calls Tryz.prog 76 #[v,.int .i64 x] w fun e w'=>e=.returned (.bool (xs.contains x))∧w'=w:=by
 obtain ⟨a,cap,rfl,_,_,hc⟩:=hv
 by_cases h0:xs.length=0
 ·obtain rfl:=List.length_eq_zero_iff.1 h0
  exact Tryz.slices_Contains_int_empty a cap x w
 ·obtain ⟨g,o,rfl,_,hc⟩:=hc (by omega)
  have:=Tryz.slices_Contains_int g o xs.length cap xs x w (Nat.le_refl _) (by omega) fun j hj=>by
   rw [hc j hj,List.getD_eq_getElem?_getD,List.getElem?_eq_getElem hj]
   rfl
  rw [List.take_of_length_le (Nat.le_refl _)] at this
  exact this
namespace Wl
theorem wide_no {xs:List Int} (h:Lib.idxOf xs 42 = -1):wide xs=false:=by
 unfold wide
 rw [h]
 rfl
theorem wide_at {xs:List Int} {k:Nat} (h:Lib.idxOf xs 42=(k:Int)):wide xs=((xs.drop k).contains 63&&decide (8<nots (xs.drop k))):=by
 unfold wide
 rw [h]
end Wl
theorem tooMany_any (v:Value) (xs:List Int) (w:World) (hv:IntS w v xs) (hl:xs.length≤1099511627776):
  Calls Tryz.prog 47 #[v] w fun e w'=>e=.returned (.bool (Wl.wide xs))∧w=w':=by
 have HI:=lh (index_any v xs 42 w hv hl)
 have HV:=lh hv
 obtain ⟨a,cap,rfl,_⟩:=hv
 obtain ⟨n,hn⟩:∃n,n=xs.length:=⟨_,rfl⟩
 have HN:=lh hn
 rw [←hn] at HI hl ⊢
 rcases Wl.idx_cases xs 42 with ⟨h1,_⟩ | ⟨k,h1,h2,_⟩
 ·have hw:=lh (Wl.wide_no h1)
  rw [h1] at HI
  clear hn h1
  go_enter Tryz.func47,Tryz.ntmps47
  go_wp2_with fail
  refine HI.out.mono ?_
  rintro e w' ⟨rfl,rfl⟩
  go_wp2_with fail
  go_ret
  exact ⟨ret_bool hw.out.symm,rfl⟩
 ·have hw:=lh (Wl.wide_at h1)
  rw [h1] at HI
  obtain ⟨g,o,rfl,hd,hc1,hc2⟩:=HV.out.drop h2
  have hdl:(xs.drop k).length≤1099511627776:=by rw [List.length_drop];omega
  have HC:=lh (contains_any _ (xs.drop k) 63 w hd hdl)
  have HS:=lh (notStars_any _ (xs.drop k) hdl w hd)
  have HX:Hid (Wl.nots (xs.drop k)≤n):=by
   show _≤_
   have:=Wl.nots_le (xs.drop k)
   rw [List.length_drop] at this
   omega
  rw [←hn] at HC HS h2 hc1
  generalize (xs.drop k).contains 63=b at *
  generalize Wl.nots (xs.drop k)=t at *
  have i1:(k:Int)<(n:Int):=by omega
  have hx:=HX.out
  clear hn h1 hd hdl
  go_enter Tryz.func47,Tryz.ntmps47
  go_wp2_with fail
  refine HI.out.mono ?_
  rintro e w' ⟨rfl,rfl⟩
  go_wp2_with fail
  refine HC.out.mono ?_
  rintro e w' ⟨rfl,rfl⟩
  cases b with
  | false=>
   go_wp2_with fail
   go_ret
   exact ⟨ret_bool hw.out.symm,rfl⟩
  | true=>
   go_wp2_with fail
   refine HS.out.mono ?_
   rintro e w' ⟨rfl,rfl⟩
   by_cases h3:8<t
   ·have i2:(8:Int)<(t:Int):=by omega
    have hd:Hid (Wl.wide xs=true):=by show _=_;rw [hw.out,decide_eq_true h3];rfl
    clear hw
    go_wp2_with fail
    go_ret
    exact ⟨ret_bool hd.out.symm,rfl⟩
   ·have i2:¬(8:Int)<(t:Int):=by omega
    have hd:Hid (Wl.wide xs=false):=by show _=_;rw [hw.out,decide_eq_false h3];rfl
    clear hw
    go_wp2_with fail
    go_ret
    exact ⟨ret_bool (by rw [hd.out];exact decide_eq_false (by omega)),rfl⟩
namespace Wl
end Wl
end
section
open Go.RowKit
theorem LoO.form {w:World} {B:Nat} {v:Value} {vals:List LoV} {L:List Au.Lo} (h:LoO w B v vals L) (h0:0<L.length):∃g cap,v=.slice (some ⟨g,0,none⟩) L.length cap∧L.length≤cap∧cap≤9223372036854775807∧B≤g∧g<w.heap.size∧(∃c fz,w.heap[g]?=some (Obj.cells c 152 fz))∧(∀j,w.frozen? ⟨g,j,none⟩=false) ∧
  ∀j (h1:j<vals.length),w.cell? ⟨g,j*3,none⟩=some (.bool vals[j].1)∧w.cell? ⟨g,j*3+1,none⟩=some vals[j].2.1∧w.cell? ⟨g,j*3+2,none⟩=some vals[j].2.2:=by
 have hl:=h.each.len
 rcases h.own.2 with ⟨_,h1⟩ | ⟨g,cap,cur,h1,hg,hh,hnc,hcp,hcs,htake⟩
 ·omega
 ·subst h1
  have hown:w.ownsRow B 152 3 (.slice (some ⟨g,0,none⟩) L.length cap) L.length (losV vals):=h.own
  refine ⟨g,cap,rfl,hnc,by unfold maxLen at hcp;omega,hg,(hown.lt g rfl).2,⟨_,_,hh⟩,fun j=>by simp [World.frozen?,hh],fun j hj=>?_⟩
  obtain ⟨a1,a2,a3⟩:=losV_at vals j hj
  exact ⟨(hown.cellAt _ (by omega)).trans a1,(hown.cellAt _ (by omega)).trans a2,(hown.cellAt _ (by omega)).trans a3⟩
theorem LoO.kind {w:World} {B:Nat} {v:Value} {vals:List LoV} {L:List Au.Lo} (h:LoO w B v vals L):∀g,v.ownBlock=some g→B≤g∧g<w.heap.size∧∃c fz,w.heap[g]?=some (Obj.cells c 152 fz):=by
 intro g hv
 refine ⟨(World.ownsRow.lt h.own g hv).1,(World.ownsRow.lt h.own g hv).2,?_⟩
 rcases h.own.2 with ⟨h1,_⟩ | ⟨g',cap,cur,h1,hg,hh,_⟩
 ·rw [h1] at hv;cases hv
 ·rw [h1] at hv
  obtain rfl:g'=g:=by simpa [Value.ownBlock] using hv
  exact ⟨_,_,hh⟩
theorem LoO.keep {w w':World} {B:Nat} {v:Value} {vals:List LoV} {L:List Au.Lo} (h:LoO w B v vals L) (e:∀k,k<w.heap.size→w'.heap[k]?=w.heap[k]?):LoO w' B v vals L:=
 ⟨ownsRow_keep h.own fun k hv=>e k (h.kind k hv).2.1,h.each.keep fun g _ _ _ hg _ _=>e g (Array.getElem?_eq_some_iff.1 hg).1⟩
theorem loose_new (w:World):∀j u,[Value.bool false,.slice none 0 0,.slice none 0 0][j]?=some u→(w.alloc (.cells #[.bool false,.slice none 0 0,.slice none 0 0] 152)).cell? ((⟨w.heap.size,0,none⟩:Addr).add j)=some u:=by
 intro j u hj
 match j,hj with
 | 0,hj=>simp at hj;subst hj;simp [Addr.add]
 | 1,hj=>simp at hj;subst hj;simp [Addr.add]
 | 2,hj=>simp at hj;subst hj;simp [Addr.add]
theorem LoO.push {w w1:World} {B:Nat} {v v':Value} {vals:List LoV} {L:List Au.Lo} {o:Obj} (h:LoO w B v vals L)
  (h1:w1.ownsRow B 152 3 v' (L.length+1) (losV vals++[.bool false,.slice none 0 0,.slice none 0 0])) (hg:(w.alloc o).grownBy w1 v.ownBlock):LoO w1 B v' (vals++[(false,.slice none 0 0,.slice none 0 0)]) (L++[⟨false,[],[]⟩]):=by
 have hl:=h.each.len
 have keep:∀(k:Nat) (c:Array Value) (t:TypeId) (fz:Nat × Nat),w.heap[k]?=some (Obj.cells c t fz)→t≠152→w1.heap[k]?=w.heap[k]?:=fun k c t fz hk ht=>by
  obtain ⟨hlk,_⟩:=Array.getElem?_eq_some_iff.1 hk
  rw [hg.block k (by simp;omega) (fun e=>?_),Go.Deep.blk_alloc_lt _ _ _ hlk]
  obtain ⟨_,_,c',fz',hc'⟩:=h.kind k e.symm
  exact kinds_neY hk hc' ht rfl
 refine ⟨?_,?_⟩
 ·rw [show losV vals++[Value.bool false,.slice none 0 0,.slice none 0 0]=losV (vals++[(false,.slice none 0 0,.slice none 0 0)]) from losV_snoc vals (false,.slice none 0 0,.slice none 0 0)] at h1
  simpa using h1
 ·have h':LoEach w1 B vals L:=h.each.keep fun g c t fz hg' ht _=>keep g c t fz hg' (by rcases ht with rfl | rfl <;> decide)
  refine ⟨by simp [hl],fun j a b=>?_,fun i j hi hj hne g hgi hgj=>?_⟩
  ·by_cases e:j<vals.length
   ·rw [List.getElem_append_left e,List.getElem_append_left (by omega)]
    exact h'.each j e (by omega)
   ·have e':j=vals.length:=by simp at a;omega
    subst e'
    have e2:(L++[(⟨false,[],[]⟩:Au.Lo)])[vals.length]=⟨false,[],[]⟩:=by simp only [hl,List.getElem_append_right (Nat.le_refl _),Nat.sub_self,List.getElem_cons_zero]
    rw [e2]
    simp only [List.getElem_append_right (Nat.le_refl _),Nat.sub_self,List.getElem_cons_zero]
    exact ⟨trivial,World.ownsRow_nil _ _ _ _,World.ownsRow_nil _ _ _ _⟩
  ·by_cases e1:i<vals.length
   ·rw [List.getElem_append_left e1] at hgi
    by_cases e2:j<vals.length
    ·rw [List.getElem_append_left e2] at hgj
     exact h'.apart i j e1 e2 hne g hgi hgj
    ·have e':j=vals.length:=by simp at hj;omega
     subst e'
     simp [Value.ownBlock] at hgj
   ·have e':i=vals.length:=by simp at hi;omega
    subst e'
    simp [Value.ownBlock] at hgi
theorem wpList_pushLo {ops:Array Oper} {rest:List Oper} {o:Oper} {a:Act} {Q:Exit→Act→World→Prop} {w:World} (hgd:o.guard=none) (s x:Operand)
  (ho:o.op=.call { callee:=.builtin .append,args:=#[s,x],argTypes:=#[148,148]})
  (B:Nat) (v:Value) (vals:List LoV) (L:List Au.Lo) (hs:a.eval s=v) (h:LoO w B v vals L) (hB:B≤w.heap.size) (hx:a.eval x=.slice (some ⟨w.heap.size,0,none⟩) 1 1) (hb:L.length+1≤1099511627776)
  (hk:∀v' w',LoO w' B v' (vals++[(false,.slice none 0 0,.slice none 0 0)]) (L++[⟨false,[],[]⟩])→(w.alloc (.cells #[.bool false,.slice none 0 0,.slice none 0 0] 152)).grownBy w' v.ownBlock→wpList Tryz.prog ops Q rest (a.put o.dst v') w'):
  wpList Tryz.prog ops Q (o :: rest) a (w.alloc (.cells #[.bool false,.slice none 0 0,.slice none 0 0] 152)):=by
 obtain ⟨ii,hi,hz0,hz1,hz2⟩:=info_parts Tryz.infoLo
 refine wpList_append_own _ hgd s x 148 ho B 152 ii _ 3 56 Tryz.underlying148 hi hz0 hz1 hz2 rfl (by decide) _ _ _ hs (h.own.alloc _) ⟨w.heap.size,0,none⟩ 1 1 [.bool false,.slice none 0 0,.slice none 0 0] hx rfl (loose_new w) ?_ (by unfold maxLen;omega) (by omega) (by simp;omega) ?_
 ·intro u hu
  simp only [List.mem_cons,List.not_mem_nil,or_false] at hu
  rcases hu with rfl | rfl | rfl <;> rfl
 ·intro v' w' h1 h2 _
  exact hk v' w' (h.push h1 h2) h2
theorem LoO.arc {w w1:World} {B G cap p:Nat} {vals:List LoV} {L:List Au.Lo} {v5:Value} {arc:Au.Arc} (h:LoO w B (.slice (some ⟨G,0,none⟩) L.length cap) vals L) (hp:p<L.length) (hpv:p<vals.length)
  (h1:OwnA w1 B v5 (L[p].arcs++[arc])) (keep:∀g,g<w.heap.size→vals[p].2.1.ownBlock≠some g→w1.heap[g]?=w.heap[g]?) (hnew:∀g,v5.ownBlock=some g→vals[p].2.1.ownBlock=some g∨w.heap.size≤g):
  LoO (w1.setCell ⟨G,p*3+1,none⟩ v5) B (.slice (some ⟨G,0,none⟩) L.length cap) (vals.set p (vals[p].1,v5,vals[p].2.2)) (Sp.addArc L p arc) ∧
   (∀(g:Nat) (c:Array Value) (t:TypeId) (fz:Nat × Nat),w.heap[g]?=some (Obj.cells c t fz)→t≠152→t≠71→(w1.setCell ⟨G,p*3+1,none⟩ v5).heap[g]?=w.heap[g]?) ∧
   (∀g,g<B→g<w.heap.size→(w1.setCell ⟨G,p*3+1,none⟩ v5).heap[g]?=w.heap[g]?)∧w1.heap[G]?=w.heap[G]?:=by
 have hl:=h.each.len
 obtain ⟨hGB,hGl,cG,fzG,hG⟩:=h.kind G rfl
 obtain ⟨q1,q2,q3⟩:=h.each.each p hpv hp
 have hrow:∀g,vals[p].2.1.ownBlock=some g→∃c fz,w.heap[g]?=some (Obj.cells c 71 fz):=q2.kind
 have keepT:∀(g:Nat) (c:Array Value) (t:TypeId) (fz:Nat × Nat),w.heap[g]?=some (Obj.cells c t fz)→t≠71→w1.heap[g]?=w.heap[g]?:=fun g c t fz hg' ht=>keep g (Array.getElem?_eq_some_iff.1 hg').1 fun e=>by
  obtain ⟨c',fz',hc'⟩:=hrow g e
  exact kinds_neY hg' hc' ht rfl
 have hG1:=keepT G cG _ fzG hG (by decide)
 have far:∀g,g≠G→(w1.setCell ⟨G,p*3+1,none⟩ v5).heap[g]?=w1.heap[g]?:=fun g hne=>Go.Deep.blk_setCell_other _ _ _ _ hne
 refine ⟨⟨?_,?_⟩,fun g c t fz hg' h2 h3=>(far g (kinds_neY hg' hG h2)).trans (keepT g c t fz hg' h3),fun g hgB hgl=>(far g (by omega)).trans (keep g hgl fun e=>by have:=(q2.lt g e).1;omega),hG1⟩
 ·have hown1:w1.ownsRow B 152 3 (.slice (some ⟨G,0,none⟩) L.length cap) L.length (losV vals):=ownsRow_keep h.own fun k hk=>by
   obtain rfl:G=k:=by simpa [Value.ownBlock] using hk
   exact hG1
  have hs:=(hown1.stored (p*3+1) v5).1
  have e:(losV vals).set (p*3+1) v5=losV (vals.set p (vals[p].1,v5,vals[p].2.2)):=by
   clear hs hown1 h1 hnew keep keepT far hrow q1 q2 q3 h hl hp
   induction vals generalizing p with
   | nil=>simp at hpv
   | cons x t ih=>
    cases p with
    | zero=>rfl
    | succ p=>
     have hp':p<t.length:=by simpa using hpv
     have:=ih hp'
     simp only [List.set_cons_succ,List.getElem_cons_succ]
     show (_ :: _ :: _ :: losV t).set ((p+1)*3+1) v5=_ :: _ :: _ :: losV _
     rw [show (p+1)*3+1=p*3+1+1+1+1 by omega,List.set_cons_succ,List.set_cons_succ,List.set_cons_succ,this]
  rw [e] at hs
  rw [Sp.addArc_length]
  exact hs
 ·have hset:∀j (hj:j<(vals.set p (vals[p].1,v5,vals[p].2.2)).length),(vals.set p (vals[p].1,v5,vals[p].2.2))[j]=if p=j then (vals[p].1,v5,vals[p].2.2) else vals[j]'(by simpa using hj):=fun j hj=>by rw [List.getElem_set]
  have hadd:∀j (hj:j<(Sp.addArc L p arc).length),(Sp.addArc L p arc)[j]=if p=j then ⟨(L[j]'(by simpa [Sp.addArc_length] using hj)).fin,(L[j]'(by simpa [Sp.addArc_length] using hj)).arcs++[arc],(L[j]'(by simpa [Sp.addArc_length] using hj)).free⟩ else L[j]'(by simpa [Sp.addArc_length] using hj):=fun j hj=>by
   have:=Sp.addArc_at L p arc j
   rw [List.getElem?_eq_getElem hj,List.getElem?_eq_getElem (by simpa [Sp.addArc_length] using hj)] at this
   simpa using this
  have hkind1:∀g,v5.ownBlock=some g→g≠G:=fun g hg' e=>by
   obtain ⟨c,fz,hc⟩:=h1.kind g hg'
   rw [e,hG1,hG] at hc
   injection hc with hc
   injection hc with _ h2
   exact absurd h2 (by decide)
  refine ⟨by rw [List.length_set,Sp.addArc_length];exact hl,fun j a b=>?_,fun i j hi hj hne g hgi hgj=>?_⟩
  ·rw [hset j a,hadd j b]
   have ha:j<vals.length:=by simpa using a
   obtain ⟨r1,r2,r3⟩:=h.each.each j ha (by omega)
   have hf3:OwnZ (w1.setCell ⟨G,p*3+1,none⟩ v5) B vals[j].2.2 (L[j]'(by omega)).free:=ownsRow_keep r3 fun k hk=>by
    obtain ⟨_,hkl,c,fz,hc⟩:=r3.kind k hk
    rw [far k (kinds_neY hc hG (by decide)),keepT k c _ fz hc (by decide)]
   by_cases e:p=j
   ·subst e
    rw [if_pos rfl,if_pos rfl]
    exact ⟨r1,h1.keep fun k hk=>far k (hkind1 k hk),hf3⟩
   ·rw [if_neg e,if_neg e]
    refine ⟨r1,r2.keep fun k hk=>?_,hf3⟩
    obtain ⟨c,fz,hc⟩:=r2.kind k hk
    rw [far k (kinds_neY hc hG (by decide)),keep k (r2.lt k hk).2 fun e2=>h.each.apart p j hpv ha e k e2 hk]
  ·have hi':i<vals.length:=by simpa using hi
   have hj':j<vals.length:=by simpa using hj
   rw [hset i hi] at hgi
   rw [hset j hj] at hgj
   have old:∀k (hk:k<vals.length) g,vals[k].2.1.ownBlock=some g→g<w.heap.size:=fun k hk g hg'=>((h.each.each k hk (by omega)).2.1.lt g hg').2
   by_cases e1:p=i
   ·rw [if_pos e1] at hgi
    have e2:¬p=j:=fun e=>hne (e1.symm.trans e)
    rw [if_neg e2] at hgj
    rcases hnew g hgi with hn | hn
    ·exact h.each.apart p j hpv hj' e2 g hn hgj
    ·have:=old j hj' g hgj
     omega
   ·rw [if_neg e1] at hgi
    by_cases e2:p=j
    ·rw [if_pos e2] at hgj
     rcases hnew g hgj with hn | hn
     ·exact h.each.apart p i hpv hi' e1 g hn hgi
     ·have:=old i hi' g hgi
      omega
    ·rw [if_neg e2] at hgj
     exact h.each.apart i j hi' hj' hne g hgi hgj
end
section
open Go.RowKit
def KeptT (w w':World):Prop:=∀(g:Nat) (c:Array Value) (t:TypeId) (fz:Nat × Nat),w.heap[g]?=some (Obj.cells c t fz)→t≠152→t≠71→w'.heap[g]?=w.heap[g]?
theorem KeptT.refl (w:World):KeptT w w:=fun _ _ _ _ _ _ _=>rfl
theorem KeptT.trans {w w' w'':World} (h:KeptT w w') (k:KeptT w' w''):KeptT w w'':=fun g c t fz hg h1 h2=>by
 have e:=h g c t fz hg h1 h2
 exact (k g c t fz (e.trans hg) h1 h2).trans e
theorem KeptT.row {w w':World} (h:KeptT w w') {g:Nat} {r:List (Int × Int)} (hr:RowG w g r):RowG w' g r:=by
 obtain ⟨c,fz,hc⟩:=hr.kind
 exact hr.of_block (h g c _ fz hc (by decide) (by decide))
theorem KeptT.alloc (w:World) (o:Obj):KeptT w (w.alloc o):=fun _ _ _ _ hg _ _=>Go.Deep.blk_alloc_lt _ _ _ (Array.getElem?_eq_some_iff.1 hg).1
theorem step_pushA {ops:Array Oper} {o:Oper} {a:Act} {K:Act→World→Prop} {Q:Exit→Act→World→Prop} {E:Prop} {w W0:World} (hgd:o.guard=none) (s x:Operand)
  (ho:o.op=.call { callee:=.builtin .append,args:=#[s,x],argTypes:=#[59,59]}) (B:Nat) (v:Value) (l:List Au.Arc) (hs:a.eval s=v) (h:OwnA w B v l) (hW:Below w.heap.size w W0) (hB:B≤w.heap.size) (p q r:Int)
  (ad:Addr) (hnews:∀j u,[Value.int .i64 p,.int .i64 q,.int .i64 r][j]?=some u→W0.cell? (ad.add j)=some u) (hx:a.eval x=.slice (some ad) 1 1) (hb:l.length+1≤1099511627776)
  (hk:∀g cap w',OwnA w' B (.slice (some ⟨g,0,none⟩) (l.length+1) cap) (l++[⟨p,q,r⟩])→W0.grownBy w' v.ownBlock→(v.ownBlock=some g∨w.heap.size≤g)→K (a.put o.dst (.slice (some ⟨g,0,none⟩) (l.length+1) cap)) w'):
  if Region.wanted o (yielded ops a.tmps)=true then Oper.wp Tryz.prog o a W0 K Q else E:=by
 obtain ⟨ii,hi,hz0,hz1,hz2⟩:=info_parts Tryz.infoA
 have hlt:=h.lt
 refine step_append_lies _ hgd s x 59 ho B 71 ii _ 3 24 Tryz.underlying59 hi hz0 hz1 hz2 rfl (by decide) v l.length (arcsV l) hs (ownsRow_keep h fun k hk=>hW.block k (hlt k hk).2) ad 1 1 [.int .i64 p,.int .i64 q,.int .i64 r] hx rfl hnews (one_arc p q r) (by omega) (by unfold maxLen;omega) (by omega) (Nat.le_trans hB hW.size) _ rfl ?_
 intro g cap w' h2 h3 h4 _
 refine hk g cap w' ?_ h3 ?_
 ·unfold OwnA
  rw [arcsV_snoc l ⟨p,q,r⟩] at h2
  simpa using h2
 ·rcases h4 with h4 | h4
  ·exact .inl h4
  ·have:=hW.size
   exact .inr (by omega)
theorem new_arcD (w:World) (a b c:Int):∀j u,[Value.int .i64 a,.int .i64 b,.int .i64 c][j]?=some u→((w.alloc (.cells #[.int .i64 a,.int .i64 b,.int .i64 c] 71)).drew).cell? ((⟨w.heap.size,0,none⟩:Addr).add j)=some u:=fun j u h=>new_arc w a b c j u h
namespace Sp
theorem drop_last {row:List (Int × Int)} {i:Nat} (h:i+1=row.length):row.drop i=[row[i]'(by omega)]:=by
 rw [List.drop_eq_getElem_cons (by omega),List.drop_of_length_le (by omega)]
theorem drop_more {row:List (Int × Int)} {i:Nat} (h:i+1<row.length):∃r' rs,row.drop i=row[i]'(by omega) :: r' :: rs∧row.drop (i+1)=r' :: rs:=by
 rw [List.drop_eq_getElem_cons (by omega)]
 exact ⟨row[i+1],row.drop (i+2),by rw [List.drop_eq_getElem_cons h],by rw [List.drop_eq_getElem_cons h]⟩
theorem addArc_arcs {n:List Au.Lo} {p:Nat} {a:Au.Arc} {X:Nat} (h:∀s∈n,s.arcs.length≤X):∀s∈addArc n p a,s.arcs.length≤X+1:=by
 intro s hs
 obtain ⟨i,hi⟩:=List.mem_iff_getElem?.1 hs
 rw [addArc_at] at hi
 obtain ⟨s0,h0,rfl⟩:=Option.map_eq_some_iff.1 hi
 have:=h s0 (List.mem_of_getElem? h0)
 split
 ·simp;omega
 ·omega
end Sp
theorem v_form {w:World} {B nl:Nat} {v:Value} {vals:List LoV} {n:List Au.Lo} {s:Au.Lo} (h:LoO w B v vals (n++[s])) (hn:nl=n.length):∃a cp,v=.slice a (nl+1) cp:=by
 obtain ⟨g4,cp4,e4,_⟩:=h.form (by simp)
 rw [e4]
 exact ⟨some ⟨g4,0,none⟩,cp4,by simp [hn]⟩
theorem leadBy_any (w:World) (B:Nat) (v:Value) (vals:List LoV) (L:List Au.Lo) (h:LoO w B v vals L) (p q g m:Nat) (row:List (Int × Int)) (hp:p<L.length) (hrow:RowG w g row) (hm:row.length=m) (hm4:m≤4) (hL:L.length≤1000000) (X:Nat) (hX:∀s∈L,s.arcs.length≤X) (hX2:X≤549755813888) (hB:B≤w.heap.size) (hbd:∀r∈row,0≤r.1∧r.1≤r.2∧r.2≤255):
  Calls Tryz.prog 101 #[v,.int .i64 p,.int .i64 q,.slice (some ⟨g,0,none⟩) m m] w fun e w'=>∃v' vals',e=.returned v'∧LoO w' B v' vals' (Sp.leadBy q L p row)∧Below B w w'∧KeptT w w':=by
 have HM:=lh hm
 have HR:=lh hrow
 have HO:=lh h
 have HX:=lh hX
 have HBD:=lh hbd
 clear hm hrow h hX hbd
 go_enter Tryz.func101,Tryz.ntmps101
 go_wp2_with fail
 go_loopg [0,1,14] m (fun g' s0 s1 s14 wx=>∃(i pp:Nat) (vv:Value) (vals:List LoV) (n:List Au.Lo),i≤m∧g'=m-i∧vv=s0∧s1=.int .i64 pp∧s14=.int .i64 i∧n.length≤L.length+i∧Hid (i<m→pp<n.length)∧Hid (LoO wx B vv vals n)∧Hid (Sp.leadBy q n pp (row.drop i)=Sp.leadBy q L p row)∧Hid (∀s∈n,s.arcs.length≤X+i)∧Hid (Below B w wx)∧Hid (KeptT w wx))
 case atStart=>exact ⟨0,p,_,vals,L,Nat.zero_le _,rfl,rfl,rfl,rfl,Nat.le_refl _,fun _=>hp,HO,rfl,HX,Below.refl _ _,KeptT.refl _⟩
 case round=>
  obtain ⟨i,pp,vv,vals,n,hi,rfl,rfl,rfl,rfl,hnl,hpp,hO,hE,hXi,hbel,hkt⟩:=hrel
  by_cases him:i<m
  ·have j1:(i:Int)<(m:Int):=by omega
   have hir:i<row.length:=by rw [HM.out];exact him
   have hpn:=hpp.out him
   have HRW:=lh (hkt.out.row HR.out)
   obtain ⟨c1,c2⟩:=HRW.out.cells i hir
   obtain ⟨x1,x2,x3⟩:=HBD.out row[i] (List.getElem_mem hir)
   have HSZ:Hid (B≤wr.heap.size):=Nat.le_trans hB hbel.out.size
   have HDL:Hid (i+1=m→row.drop i=[row[i]]):=fun e=>Sp.drop_last (by rw [HM.out];exact e)
   have HDM:Hid (i+1<m→∃r' rs,row.drop i=row[i] :: r' :: rs∧row.drop (i+1)=r' :: rs):=fun e=>Sp.drop_more (by rw [HM.out];exact e)
   generalize row[i]=r at *
   obtain ⟨lo,hi'⟩:=r
   dsimp only at *
   have HBK:Hid ((wr.alloc (.cells #[.int .i64 lo,.int .i64 hi'] 205)).heap[wr.heap.size]?=some (Obj.cells #[.int .i64 lo,.int .i64 hi'] 205 (0,0))):=Go.Deep.blk_alloc_new _ _
   have HO1:Hid (LoO (wr.alloc (.cells #[.int .i64 lo,.int .i64 hi'] 205)) B vv vals n):=hO.out.keep fun k hk=>Go.Deep.blk_alloc_lt _ _ _ hk
   have HB1:Hid (Below B w (wr.alloc (.cells #[.int .i64 lo,.int .i64 hi'] 205))):=hbel.out.alloc HSZ.out _
   have HK1:Hid (KeptT w (wr.alloc (.cells #[.int .i64 lo,.int .i64 hi'] 205))):=hkt.out.trans (KeptT.alloc _ _)
   obtain ⟨nl,hnle⟩:∃nl,nl=n.length:=⟨_,rfl⟩
   have HNL:=lh hnle
   obtain ⟨a0,cp0,rfl⟩:∃a cp,vv=.slice a nl cp:=by
    rw [hnle]
    obtain ⟨g0,cp0,h1,_⟩:=hO.out.form (by omega)
    exact ⟨_,_,h1⟩
   rw [←hnle] at hpn hnl
   clear hnle hO hbel hkt
   by_cases hlast:i+1=m
   case' pos=>
    have j2:¬(i:Int)<(m:Int)-1:=by omega
    go_wp2_with fail
    obtain ⟨bx,hbx⟩:∃b,b=wr.heap.size:=⟨_,rfl⟩
    have HBX:Hid (B≤bx):=by show _≤_;rw [hbx];exact HSZ.out
    rw [←hbx] at HBK ⊢
    clear c1 c2 hbx
    generalize wr.alloc (.cells #[.int .i64 lo,.int .i64 hi'] 205)=wa at *
    obtain ⟨nx,hnx⟩:∃nx,nx=q:=⟨_,rfl⟩
    have HEQ:Hid (Sp.leadBy q (Sp.addArc n pp ⟨lo,hi',(nx:Int)⟩) nx (row.drop (i+1))=Sp.leadBy q L p row):=by
     have e1:row.drop (i+1)=[]:=List.drop_of_length_le (by rw [HM.out];omega)
     show _=_
     rw [←hE.out,HDL.out hlast,e1,hnx]
     rfl
    have HLT:Hid (i+1<m→nx<n.length):=fun e=>by omega
    have HNB:nl≤L.length+(i+1):=by omega
    rw [←hnx]
    have HNQ:=lh hnx
    clear hnx
   case' neg=>
    have j2:(i:Int)<(m:Int)-1:=by omega
    have HPU:=lh (fun (w':World) (v':Value) (hk:LoO w' B v' (vals++[(false,.slice none 0 0,.slice none 0 0)]) (n++[⟨false,[],[]⟩]))=>hk.form (by simp))
    go_wp2_with (at_builtin;go_loud ((refine wpList_pushLo rfl _ _ rfl B (.slice a0 nl cp0) vals n rfl HO1.out (Nat.le_trans HSZ.out (by simp)) (by rw [World.size_alloc];rfl) (by have:=HNL.out;omega) ?_));intro v4 w4 ho4 hg4;have HG4:=lh hg4;obtain ⟨a0,cp0,rfl⟩:∃a cp,v4=.slice a (nl+1) cp:=v_form ho4 HNL.out;have HO4:=lh ho4;clear ho4 hg4)
    obtain ⟨bx,hbx⟩:∃b,b=wr.heap.size:=⟨_,rfl⟩
    have HBX:Hid (B≤bx):=by show _≤_;rw [hbx];exact HSZ.out
    rw [←hbx] at HBK ⊢
    clear c1 c2 hbx
    generalize wr.alloc (.cells #[.int .i64 lo,.int .i64 hi'] 205)=wb at *
    have hkT:KeptT wb w4:=fun g c t fz hg h1 h2=>by
     have hgl:=(Array.getElem?_eq_some_iff.1 hg).1
     refine (HG4.out.block g (by simp;omega) (fun e=>?_)).trans (Go.Deep.blk_alloc_lt _ _ _ hgl)
     obtain ⟨_,_,c',fz',hc'⟩:=HO1.out.kind g e.symm
     exact kinds_neY hg hc' h1 rfl
    have HBK2:Hid (w4.heap[bx]?=some (Obj.cells #[.int .i64 lo,.int .i64 hi'] 205 (0,0))):=(hkT bx _ _ _ HBK.out (by decide) (by decide)).trans HBK.out
    have HB4:Hid (Below B w w4):=(HB1.out.alloc (Nat.le_trans hB HB1.out.size) _).grown HG4.out (by have:=HB1.out.size;simp;omega) (fun j hj=>(HO1.out.kind j hj).1)
    have HK4:Hid (KeptT w w4):=HK1.out.trans hkT
    clear hkT HBK HO1 HB1 HK1 HG4
    have HBK:=HBK2
    have HB1:=HB4
    have HK1:=HK4
    have HO1:=HO4
    clear HBK2 HB4 HK4 HO4
    have HEQ:Hid (Sp.leadBy q (Sp.addArc (n++[⟨false,[],[]⟩]) pp ⟨lo,hi',(nl:Int)⟩) nl (row.drop (i+1))=Sp.leadBy q L p row):=by
     obtain ⟨r',rs,e1,e2⟩:=HDM.out (by omega)
     show _=_
     rw [←hE.out,e1,e2,HNL.out]
     rfl
    have HLT:Hid (i+1<m→nl<(n++[(⟨false,[],[]⟩:Au.Lo)]).length):=fun e=>by
     have:=HNL.out
     simp
     omega
    have HXn:Hid (∀s∈n++[(⟨false,[],[]⟩:Au.Lo)],s.arcs.length≤X+i):=fun s hs=>by
     rcases List.mem_append.1 hs with hs | hs
     ·exact hXi.out s hs
     ·rw [List.mem_singleton.1 hs];simp
    have HNL2:Hid (nl+1=(n++[(⟨false,[],[]⟩:Au.Lo)]).length):=by show _=_;rw [HNL.out];simp
    have HNB:nl+1≤L.length+(i+1):=by omega
    have hpn2:pp<nl+1:=by omega
    clear hXi HNL hnl hpn hE HDM HDL HPU hpp
    have hXi:=HXn
    have HNL:=HNL2
    have hpn:=hpn2
    clear HXn HNL2 hpn2
    generalize n++[(⟨false,[],[]⟩:Au.Lo)]=n at *
    generalize vals++[(false,Value.slice none 0 0,Value.slice none 0 0)]=vals at *
    generalize nl+1=nk at *
    obtain ⟨nx,rfl⟩:∃x:Nat,x=nl:=⟨_,rfl⟩
    obtain ⟨nl,rfl⟩:∃x:Nat,x=nk:=⟨_,rfl⟩
    obtain ⟨wa,rfl⟩:∃x:World,x=w4:=⟨_,rfl⟩
   all_goals
    have hpv:pp<vals.length:=by rw [HO1.out.each.len,←HNL.out];exact hpn
    have hpn3:pp<n.length:=by rw [←HNL.out];exact hpn
    obtain ⟨q1,q2,q3⟩:=HO1.out.each.each pp hpv hpn3
    obtain ⟨G,cp,e0,_,_,hGB,hGl,hGk,hGf,hGc⟩:=HO1.out.form (by omega)
    obtain ⟨rfl,rfl⟩:a0=some ⟨G,0,none⟩∧cp0=cp:=by
     injection e0 with e1 e2 e3
     exact ⟨e1,e3⟩
    obtain ⟨_,d7,_⟩:=hGc pp hpv
    have df:=hGf (pp*3+1)
    have HQ2:=lh q2
    have HXp:Hid (n[pp].arcs.length≤X+i):=hXi.out _ (List.getElem_mem hpn3)
    have HARC:=lh (fun (w1:World) (v5:Value) (arc:Au.Arc)=>LoO.arc (w1:=w1) (v5:=v5) (arc:=arc) (by rw [←HNL.out];exact HO1.out) hpn3 hpv)
    have HARCS:=lh (fun (a:Au.Arc)=>Sp.addArc_arcs (p:=pp) (a:=a) hXi.out)
    have HAL:=lh (fun (a:Au.Arc)=>Sp.addArc_length n pp a)
    generalize n[pp].arcs=l at *
    have HVJ:Hid (∃vj,vj=vals[pp].2.1):=⟨_,rfl⟩
    obtain ⟨vj,hvj⟩:=HVJ.out
    rw [←hvj] at d7 HQ2 HARC
    clear hvj HVJ q1 q2 q3 e0 hGc hGf
    have b0:wa.cell? ⟨bx,0,none⟩=some (.int .i64 lo):=by simp [World.cell?,HBK.out]
    have b1:wa.cell? ⟨bx,1,none⟩=some (.int .i64 hi'):=by simp [World.cell?,HBK.out]
    have hbxl:bx<wa.heap.size:=(Array.getElem?_eq_some_iff.1 HBK.out).1
    have HSA:Hid (∀W:World,W.heap[bx]?=wa.heap[bx]?→W.cell? ⟨bx,0,none⟩=some (.int .i64 lo)∧W.cell? ⟨bx,1,none⟩=some (.int .i64 hi')):=fun W e=>by
     rw [HBK.out] at e
     exact ⟨by simp [World.cell?,e],by simp [World.cell?,e]⟩
    have HDN:Hid (((wa.alloc (.cells #[.int .i64 lo,.int .i64 hi',.int .i64 (nx:Int)] 71)).drew).cell? ⟨bx,0,none⟩=some (.int .i64 lo)∧((wa.alloc (.cells #[.int .i64 lo,.int .i64 hi',.int .i64 (nx:Int)] 71)).drew).cell? ⟨bx,1,none⟩=some (.int .i64 hi')):=HSA.out _ (Go.Deep.blk_alloc_lt _ _ _ hbxl)
    have hq0:=HDN.out.1
    have hq1:=HDN.out.2
    have g7:((wa.alloc (.cells #[.int .i64 lo,.int .i64 hi',.int .i64 (nx:Int)] 71)).drew).cell? ⟨G,pp*3+1,none⟩=some vj:=(World.cell?_of_block (w:=wa) (a:=⟨G,pp*3+1,none⟩) (Go.Deep.blk_alloc_lt _ _ _ hGl)).trans d7
    have hBE:Hid (Below wa.heap.size wa ((wa.alloc (.cells #[.int .i64 lo,.int .i64 hi',.int .i64 (nx:Int)] 71)).drew)):=((Below.refl _ _).alloc (Nat.le_refl _) _).drew
    have hnw:=lh (new_arcD wa lo hi' (nx:Int))
    have HBW:Hid (B≤wa.heap.size):=Nat.le_trans hB HB1.out.size
    have HGB:=lh hGB
    have i6:(pp:Int)<(nl:Int):=by omega
    clear hGB hGl hGk
    refine wp_region_held_drew (S:=fun wx=>wx.cell? ⟨bx,0,none⟩=some (.int .i64 lo)∧wx.cell? ⟨bx,1,none⟩=some (.int .i64 hi')) (by kernel_rfl) ⟨b0,b1⟩ (fun hHeld=>?_)
    refine wpAnyH_take (i:=0) (fuel:=17) (oi:=⟨_,_,_,_,_,_⟩) (v:=?_) rfl (by kernel_rfl) (by kernel_rfl) (by kernel_rfl) (fun _ _ _ h=>h) (Or.inl ⟨by rfl,?_⟩) (by assumption) ?_
    rotate_left
    ·intro w _
     first | (go_simp;done) | (go_simp;with_reducible rfl)
    simp only [Act.put,List.setIfInBounds_toArray,List.set_cons_zero,List.set_cons_succ]
    refine wpAnyH_take (i:=1) (fuel:=16) (oi:=⟨_,_,_,_,_,_⟩) (v:=?_) rfl (by kernel_rfl) (by kernel_rfl) (by kernel_rfl) (fun _ _ _ h=>h) (Or.inl ⟨by rfl,?_⟩) (by assumption) ?_
    rotate_left
    ·intro w _
     first | (go_simp;done) | (go_simp;with_reducible rfl)
    simp only [Act.put,List.setIfInBounds_toArray,List.set_cons_zero,List.set_cons_succ]
    refine wpAnyH_take (i:=2) (fuel:=15) (oi:=⟨_,_,_,_,_,_⟩) (v:=?_) rfl (by kernel_rfl) (by kernel_rfl) (by kernel_rfl) (fun _ _ _ h=>h) (Or.inl ⟨by rfl,?_⟩) (by assumption) ?_
    rotate_left
    ·intro w _
     first | (go_simp;done) | (go_simp;with_reducible rfl)
    simp only [Act.put,List.setIfInBounds_toArray,List.set_cons_zero,List.set_cons_succ]
    refine wpAnyH_take (i:=3) (fuel:=14) (oi:=⟨_,_,_,_,_,_⟩) (v:=?_) rfl (by kernel_rfl) (by kernel_rfl) (by kernel_rfl) (fun _ _ _ h=>h) (Or.inl ⟨by rfl,?_⟩) (by assumption) ?_
    rotate_left
    ·intro w _
     first | (go_simp;done) | (go_simp;with_reducible rfl)
    simp only [Act.put,List.setIfInBounds_toArray,List.set_cons_zero,List.set_cons_succ]
    refine wpAnyH_take (i:=4) (fuel:=13) (oi:=⟨_,_,_,_,_,_⟩) (v:=?_) rfl (by kernel_rfl) (by kernel_rfl) (by kernel_rfl) (fun _ _ _ h=>h) (Or.inl ⟨by rfl,?_⟩) (by assumption) ?_
    rotate_left
    ·intro w _
     first | (go_simp;done) | (go_simp;with_reducible rfl)
    simp only [Act.put,List.setIfInBounds_toArray,List.set_cons_zero,List.set_cons_succ]
    refine wpAnyH_take (i:=5) (fuel:=12) (oi:=⟨_,_,_,_,_,_⟩) (v:=?_) rfl (by kernel_rfl) (by kernel_rfl) (by kernel_rfl) (fun _ _ _ h=>h) (Or.inl ⟨by rfl,?_⟩) (by assumption) ?_
    rotate_left
    ·intro w _
     first | (go_simp;done) | (go_simp;with_reducible rfl)
    simp only [Act.put,List.setIfInBounds_toArray,List.set_cons_zero,List.set_cons_succ]
    refine wpAnyH_take (i:=7) (fuel:=11) (oi:=⟨_,_,_,_,_,_⟩) (v:=?_) rfl (by kernel_rfl) (by kernel_rfl) (by kernel_rfl) (fun _ _ _ h=>h) (Or.inl ⟨by rfl,?_⟩) (by assumption) ?_
    rotate_left
    ·intro w _
     first | (go_simp;done) | (go_simp;with_reducible rfl)
    simp only [Act.put,List.setIfInBounds_toArray,List.set_cons_zero,List.set_cons_succ]
    refine wpAnyH_take (i:=8) (fuel:=10) (oi:=⟨_,_,_,_,_,_⟩) (v:=?_) rfl (by kernel_rfl) (by kernel_rfl) (by kernel_rfl) (fun _ _ _ h=>h) (Or.inl ⟨by rfl,?_⟩) (by assumption) ?_
    rotate_left
    ·intro w hSw
     obtain ⟨h1,_⟩:=hSw
     first | (go_simp;done) | (go_simp;with_reducible rfl)
    simp only [Act.put,List.setIfInBounds_toArray,List.set_cons_zero,List.set_cons_succ]
    refine wpAnyH_take (i:=9) (fuel:=9) (oi:=⟨_,_,_,_,_,_⟩) (v:=?_) rfl (by kernel_rfl) (by kernel_rfl) (by kernel_rfl) (fun _ _ _ h=>h) (Or.inl ⟨by rfl,?_⟩) (by assumption) ?_
    rotate_left
    ·intro w _
     first | (go_simp;done) | (go_simp;with_reducible rfl)
    simp only [Act.put,List.setIfInBounds_toArray,List.set_cons_zero,List.set_cons_succ]
    refine wpAnyH_take (i:=10) (fuel:=8) (oi:=⟨_,_,_,_,_,_⟩) (v:=?_) rfl (by kernel_rfl) (by kernel_rfl) (by kernel_rfl) (fun _ _ _ h=>h) (Or.inl ⟨by rfl,?_⟩) (by assumption) ?_
    rotate_left
    ·intro w hSw
     obtain ⟨_,h2⟩:=hSw
     first | (go_simp;done) | (go_simp;with_reducible rfl)
    simp only [Act.put,List.setIfInBounds_toArray,List.set_cons_zero,List.set_cons_succ]
    refine wpAnyH_take (i:=11) (fuel:=7) (oi:=⟨_,_,_,_,_,_⟩) (v:=?_) rfl (by kernel_rfl) (by kernel_rfl) (by kernel_rfl) (fun _ _ _ h=>h) (Or.inl ⟨by rfl,?_⟩) (by assumption) ?_
    rotate_left
    ·intro w _
     first | (go_simp;done) | (go_simp;with_reducible rfl)
    simp only [Act.put,List.setIfInBounds_toArray,List.set_cons_zero,List.set_cons_succ]
    refine wpAnyH_take (i:=12) (fuel:=6) (oi:=⟨_,_,_,_,_,_⟩) (v:=?_) rfl (by kernel_rfl) (by kernel_rfl) (by kernel_rfl) (fun _ _ _ h=>h) (Or.inl ⟨by rfl,?_⟩) (by assumption) ?_
    rotate_left
    ·intro w _
     first | (go_simp;done) | (go_simp;with_reducible rfl)
    simp only [Act.put,List.setIfInBounds_toArray,List.set_cons_zero,List.set_cons_succ]
    refine wpAnyH_ready (rs:=[6,13]) (by kernel_rfl) (by simp) ?_
    refine AllReadyH.cons (o:=⟨_,_,_,_,_,_⟩) rfl (fun K hK=>?_) ?_
    ·go_simp
     refine hK.out _ _ ⟨b0,b1⟩ (fun hHeld=>?_)
     clear hK K
     refine wpAnyH_ready (rs:=[13]) (by kernel_rfl) (by simp) ?_
     refine AllReadyH.cons (o:=⟨_,_,_,_,_,_⟩) rfl (fun K hK=>?_) AllReadyH.nil
     go_simp
     refine hK.out _ _ ⟨hq0,hq1⟩ (fun hHeld=>?_)
     clear hK K
     refine wpAnyH_ready (rs:=[14]) (by kernel_rfl) (by simp) ?_
     refine AllReadyH.cons (o:=⟨_,_,_,_,_,_⟩) rfl (fun K hK=>?_) AllReadyH.nil
     refine step_pushA (by rfl) _ _ (by rfl) B vj l (by rfl) HQ2.out hBE.out HBW.out lo hi' (nx:Int) ⟨wa.heap.size,0,none⟩ hnw.out (by rfl) (by have:=HXp.out;omega) ?_
     intro g5 cp5 w5 ho5 hg5 hn5
     have HKP:Hid (∀g,g<wa.heap.size→vj.ownBlock≠some g→w5.heap[g]?=wa.heap[g]?):=fun g hgl hne=>by
      refine (hg5.block g (by have:=hBE.out.size;omega) (fun e=>hne e.symm)).trans (Go.Deep.blk_alloc_lt _ _ _ hgl)
     have HARC5:=lh (HARC.out w5 (.slice (some ⟨g5,0,none⟩) (l.length+1) cp5) ⟨lo,hi',(nx:Int)⟩ ho5 HKP.out (fun g hg=>by
      have e5:g5=g:=by simpa [Value.ownBlock] using hg
      rw [←e5]
      exact hn5))
     have HB5:Hid (Below B w w5):=by
      have h1:Below B w ((wa.alloc (.cells #[.int .i64 lo,.int .i64 hi',.int .i64 (nx:Int)] 71)).drew):=(HB1.out.alloc HBW.out _).drew
      exact h1.grown hg5 (Nat.le_trans hB h1.size) (fun j hj=>(HQ2.out.lt j hj).1)
     have k0:=HSA.out w5 (by
      refine HKP.out bx hbxl fun e=>?_
      obtain ⟨c',fz',hc'⟩:=HQ2.out.kind bx e
      exact kinds_neY HBK.out hc' (by decide) rfl)
     have k1:w5.cell? ⟨G,pp*3+1,none⟩=some vj:=by
      refine (World.cell?_of_block (w:=wa) (a:=⟨G,pp*3+1,none⟩) HARC5.out.2.2.2).trans d7
     have k2:w5.frozen? ⟨G,pp*3+1,none⟩=false:=(World.frozen?_of_block (w:=wa) (a:=⟨G,pp*3+1,none⟩) HARC5.out.2.2.2).trans df
     have z3:=HSA.out (w5.setCell ⟨G,pp*3+1,none⟩ (.slice (some ⟨g5,0,none⟩) (l.length+1) cp5)) ((HARC5.out.2.1 bx _ _ _ HBK.out (by decide) (by decide)))
     clear hg5 hn5 ho5
     refine hK.out _ _ k0 (fun hHeld=>?_)
     clear hK K
     simp only [Act.put,List.setIfInBounds_toArray,List.set_cons_zero,List.set_cons_succ]
     refine wpAnyH_ready (rs:=[15]) (by kernel_rfl) (by simp) ?_
     refine AllReadyH.cons (o:=⟨_,_,_,_,_,_⟩) rfl (fun K hK=>?_) AllReadyH.nil
     go_simp
     refine hK.out _ _ k0 (fun hHeld=>?_)
     clear hK K
     refine wpAnyH_ready (rs:=[16]) (by kernel_rfl) (by simp) ?_
     refine AllReadyH.cons (o:=⟨_,_,_,_,_,_⟩) rfl (fun K hK=>?_) AllReadyH.nil
     go_simp
     refine hK.out _ _ k0 (fun hHeld=>?_)
     clear hK K
     refine wpAnyH_ready (rs:=[17]) (by kernel_rfl) (by simp) ?_
     refine AllReadyH.cons (o:=⟨_,_,_,_,_,_⟩) rfl (fun K hK=>?_) AllReadyH.nil
     go_simp
     refine hK.out _ _ z3 (fun hHeld=>?_)
     clear hK K
     refine wpAnyH_done (by kernel_rfl) ?_ _
     have HB6:Hid (Below B w (w5.setCell ⟨G,pp*3+1,none⟩ (.slice (some ⟨g5,0,none⟩) (l.length+1) cp5))):=HB5.out.setCell HGB.out _
     have HK6:Hid (KeptT w (w5.setCell ⟨G,pp*3+1,none⟩ (.slice (some ⟨g5,0,none⟩) (l.length+1) cp5))):=HK1.out.trans HARC5.out.2.1
     have HO6:Hid (LoO (w5.setCell ⟨G,pp*3+1,none⟩ (.slice (some ⟨g5,0,none⟩) (l.length+1) cp5)) B (.slice (some ⟨G,0,none⟩) nl cp0) (vals.set pp (vals[pp].1,.slice (some ⟨g5,0,none⟩) (l.length+1) cp5,vals[pp].2.2)) (Sp.addArc n pp ⟨lo,hi',(nx:Int)⟩)):=by
      have:=HARC5.out.1
      rw [←HNL.out] at this
      exact this
     have HLT2:Hid (i+1<m→nx<(Sp.addArc n pp ⟨lo,hi',(nx:Int)⟩).length):=fun e=>by rw [HAL.out];exact HLT.out e
     have HNB2:(Sp.addArc n pp ⟨lo,hi',(nx:Int)⟩).length≤L.length+(i+1):=by rw [HAL.out,←HNL.out];exact HNB
     clear k1 k2 z3 d7 df g7 b0 b1 hq0 hq1 k0
     try (obtain rfl:=HNQ.out)
     go_wp2_with fail
     go_roundg (m-(i+1))
     case rel=>exact ⟨i+1,nx,_,_,_,by omega,rfl,rfl,rfl,by go_num,HNB2,HLT2,HO6,HEQ,HARCS.out _,HB6,HK6⟩
     case measure=>omega
    refine AllReadyH.cons (o:=⟨_,_,_,_,_,_⟩) rfl (fun K hK=>?_) AllReadyH.nil
    go_simp
    refine hK.out _ _ ⟨hq0,hq1⟩ (fun hHeld=>?_)
    clear hK K
    refine wpAnyH_ready (rs:=[6]) (by kernel_rfl) (by simp) ?_
    refine AllReadyH.cons (o:=⟨_,_,_,_,_,_⟩) rfl (fun K hK=>?_) AllReadyH.nil
    go_simp
    refine hK.out _ _ ⟨hq0,hq1⟩ (fun hHeld=>?_)
    clear hK K
    refine wpAnyH_ready (rs:=[14]) (by kernel_rfl) (by simp) ?_
    refine AllReadyH.cons (o:=⟨_,_,_,_,_,_⟩) rfl (fun K hK=>?_) AllReadyH.nil
    refine step_pushA (by rfl) _ _ (by rfl) B vj l (by rfl) HQ2.out hBE.out HBW.out lo hi' (nx:Int) ⟨wa.heap.size,0,none⟩ hnw.out (by rfl) (by have:=HXp.out;omega) ?_
    intro g5 cp5 w5 ho5 hg5 hn5
    have HKP:Hid (∀g,g<wa.heap.size→vj.ownBlock≠some g→w5.heap[g]?=wa.heap[g]?):=fun g hgl hne=>by
     refine (hg5.block g (by have:=hBE.out.size;omega) (fun e=>hne e.symm)).trans (Go.Deep.blk_alloc_lt _ _ _ hgl)
    have HARC5:=lh (HARC.out w5 (.slice (some ⟨g5,0,none⟩) (l.length+1) cp5) ⟨lo,hi',(nx:Int)⟩ ho5 HKP.out (fun g hg=>by
     have e5:g5=g:=by simpa [Value.ownBlock] using hg
     rw [←e5]
     exact hn5))
    have HB5:Hid (Below B w w5):=by
     have h1:Below B w ((wa.alloc (.cells #[.int .i64 lo,.int .i64 hi',.int .i64 (nx:Int)] 71)).drew):=(HB1.out.alloc HBW.out _).drew
     exact h1.grown hg5 (Nat.le_trans hB h1.size) (fun j hj=>(HQ2.out.lt j hj).1)
    have k0:=HSA.out w5 (by
     refine HKP.out bx hbxl fun e=>?_
     obtain ⟨c',fz',hc'⟩:=HQ2.out.kind bx e
     exact kinds_neY HBK.out hc' (by decide) rfl)
    have k1:w5.cell? ⟨G,pp*3+1,none⟩=some vj:=by
     refine (World.cell?_of_block (w:=wa) (a:=⟨G,pp*3+1,none⟩) HARC5.out.2.2.2).trans d7
    have k2:w5.frozen? ⟨G,pp*3+1,none⟩=false:=(World.frozen?_of_block (w:=wa) (a:=⟨G,pp*3+1,none⟩) HARC5.out.2.2.2).trans df
    have z3:=HSA.out (w5.setCell ⟨G,pp*3+1,none⟩ (.slice (some ⟨g5,0,none⟩) (l.length+1) cp5)) ((HARC5.out.2.1 bx _ _ _ HBK.out (by decide) (by decide)))
    clear hg5 hn5 ho5
    refine hK.out _ _ k0 (fun hHeld=>?_)
    clear hK K
    simp only [Act.put,List.setIfInBounds_toArray,List.set_cons_zero,List.set_cons_succ]
    refine wpAnyH_ready (rs:=[15]) (by kernel_rfl) (by simp) ?_
    refine AllReadyH.cons (o:=⟨_,_,_,_,_,_⟩) rfl (fun K hK=>?_) AllReadyH.nil
    go_simp
    refine hK.out _ _ k0 (fun hHeld=>?_)
    clear hK K
    refine wpAnyH_ready (rs:=[16]) (by kernel_rfl) (by simp) ?_
    refine AllReadyH.cons (o:=⟨_,_,_,_,_,_⟩) rfl (fun K hK=>?_) AllReadyH.nil
    go_simp
    refine hK.out _ _ k0 (fun hHeld=>?_)
    clear hK K
    refine wpAnyH_ready (rs:=[17]) (by kernel_rfl) (by simp) ?_
    refine AllReadyH.cons (o:=⟨_,_,_,_,_,_⟩) rfl (fun K hK=>?_) AllReadyH.nil
    go_simp
    refine hK.out _ _ z3 (fun hHeld=>?_)
    clear hK K
    refine wpAnyH_done (by kernel_rfl) ?_ _
    have HB6:Hid (Below B w (w5.setCell ⟨G,pp*3+1,none⟩ (.slice (some ⟨g5,0,none⟩) (l.length+1) cp5))):=HB5.out.setCell HGB.out _
    have HK6:Hid (KeptT w (w5.setCell ⟨G,pp*3+1,none⟩ (.slice (some ⟨g5,0,none⟩) (l.length+1) cp5))):=HK1.out.trans HARC5.out.2.1
    have HO6:Hid (LoO (w5.setCell ⟨G,pp*3+1,none⟩ (.slice (some ⟨g5,0,none⟩) (l.length+1) cp5)) B (.slice (some ⟨G,0,none⟩) nl cp0) (vals.set pp (vals[pp].1,.slice (some ⟨g5,0,none⟩) (l.length+1) cp5,vals[pp].2.2)) (Sp.addArc n pp ⟨lo,hi',(nx:Int)⟩)):=by
     have:=HARC5.out.1
     rw [←HNL.out] at this
     exact this
    have HLT2:Hid (i+1<m→nx<(Sp.addArc n pp ⟨lo,hi',(nx:Int)⟩).length):=fun e=>by rw [HAL.out];exact HLT.out e
    have HNB2:(Sp.addArc n pp ⟨lo,hi',(nx:Int)⟩).length≤L.length+(i+1):=by rw [HAL.out,←HNL.out];exact HNB
    clear k1 k2 z3 d7 df g7 b0 b1 hq0 hq1 k0
    try (obtain rfl:=HNQ.out)
    go_wp2_with fail
    go_roundg (m-(i+1))
    case rel=>exact ⟨i+1,nx,_,_,_,by omega,rfl,rfl,rfl,by go_num,HNB2,HLT2,HO6,HEQ,HARCS.out _,HB6,HK6⟩
    case measure=>omega
  ·obtain rfl:i=m:=by omega
   have e1:row.drop i=[]:=List.drop_of_length_le (by rw [HM.out];exact Nat.le_refl _)
   rw [e1] at hE
   clear e1
   go_wp2_with fail
   go_ret
   refine ⟨_,vals,rfl,?_,hbel.out,hkt.out⟩
   rw [←hE.out]
   exact hO.out
end
section
open Go.RowKit
namespace Sp
theorem leadBy_arcs {n:List Au.Lo} {p q X:Nat} {row:List (Int × Int)} (hp:p<n.length) (h:∀s∈n,s.arcs.length≤X):∀s∈leadBy q n p row,s.arcs.length≤X+1:=by
 cases row with
 | nil=>intro s hs;have:=h s hs;omega
 | cons r rs=>
  rw [leadBy_form q rs r n p hp]
  intro s hs
  rcases List.mem_append.1 hs with hs | hs
  ·exact addArc_arcs h s hs
  ·obtain ⟨j,hj⟩:=List.mem_iff_getElem?.1 hs
   have hl:j<rs.length:=by have:=(List.getElem?_eq_some_iff.1 hj).1;rwa [chainL_length] at this
   rw [chainL_at q n.length rs j hl] at hj
   cases hj
   simp
theorem lead_bounds {L:List Au.Lo} {p q X:Nat} (hp:p<L.length) (hX:∀s∈L,s.arcs.length≤X):∀(m:Nat) (R:List (List (Int × Int))),R.length=m→(∀row∈R,row.length≤4)→L.length≤(lead L p q R).length∧(lead L p q R).length≤L.length+4*m∧∀s∈lead L p q R,s.arcs.length≤X+m
 | 0,R,hR,_=>by
  obtain rfl:=List.length_eq_zero_iff.1 hR
  exact ⟨Nat.le_refl _,Nat.le_refl _,hX⟩
 | m+1,R,hR,hr=>by
  obtain ⟨T,row,rfl⟩:∃T row,R=T++[row]:=⟨R.dropLast,R.getLast (by intro e;rw [e] at hR;simp at hR),(List.dropLast_concat_getLast _).symm⟩
  obtain ⟨i1,i2,i3⟩:=lead_bounds (q:=q) hp hX m T (by simpa using hR) fun r h=>hr r (List.mem_append_left _ h)
  have hrow:=hr row (by simp)
  rw [lead_snoc]
  have hp2:p<(lead L p q T).length:=by omega
  have hl:=leadBy_length q (lead L p q T) p row hp2
  exact ⟨by omega,by omega,leadBy_arcs hp2 i3⟩
end Sp
theorem rowK {w w':World} (h:KeptT w w') {g j:Nat} {v:Value} (hk:∃(c:Array Value) (fz:Nat × Nat),w.heap[g]?=some (Obj.cells c 179 fz)) (hc:w.cell? ⟨g,j,none⟩=some v):w'.cell? ⟨g,j,none⟩=some v:=by
 obtain ⟨c,fz,hg⟩:=hk
 exact (World.cell?_of_block (w:=w) (a:=⟨g,j,none⟩) (h g c _ fz hg (by decide) (by decide))).trans hc
theorem lead_any (F:Nat→Prop) (w:World) (v:Value) (L:List Au.Lo) (h:LoS F w v L) (hL:L.length≤1000) (hs:∀s∈L,s.arcs.length≤1099511627∧s.free.length*8≤140737488355328) (p q:Nat) (lo hi:Int) (hp:p<L.length) (hq:q<L.length):
  Calls Tryz.prog 79 #[v,.int .i64 (p:Int),.int .i64 (q:Int),.int .i64 lo,.int .i64 hi] w fun e w'=>∃v' vals,e=.returned v'∧LoO w' w.heap.size v' vals (Sp.lead L p q (Sp.rows lo hi))∧Below w.heap.size w w':=by
 have HC:=lh (copyOf_any F w v L h hL fun s hs'=>⟨by have:=(hs s hs').1;omega,(hs s hs').2⟩)
 have hb1:inB (p:Int) L.length=true:=decide_eq_true ⟨by omega,by omega⟩
 have hb2:inB (q:Int) L.length=true:=decide_eq_true ⟨by omega,by omega⟩
 obtain ⟨a,cap,rfl,_,hcp,_⟩:=h
 have H1:=lh (fun w=>isPlace_any5 (p:Int) L.length w)
 have H2:=lh (fun w=>isPlace_any5 (q:Int) L.length w)
 rw [hb1] at H1
 rw [hb2] at H2
 have HRW:=lh (fun w=>rows_any lo hi w)
 have HFEW:=Sp.rows_few lo hi
 have HOK:=lh (fun row (hr:row∈Sp.rows lo hi)=>Sp.rows_shape hr)
 have HBD:=lh (fun (m:Nat) (T:List (List (Int × Int))) (e:T.length=m) (ht:∀row∈T,row.length≤4)=>Sp.lead_bounds (q:=q) hp (fun s hs'=>(hs s hs').1) m T e ht)
 generalize Sp.rows lo hi=R at *
 obtain ⟨n,hn⟩:∃n,n=L.length:=⟨_,rfl⟩
 have HN:=lh hn
 rw [←hn] at hL HC H1 H2 hp hq ⊢
 clear hn hb1 hb2 hs
 go_enter Tryz.func79,Tryz.ntmps79
 go_wp2_with fail
 refine HC.out.mono ?_
 rintro e w1 ⟨v',vals,rfl,hO,hb⟩
 have HO1:=lh hO
 have HB1:=lh hb
 clear hO hb HC
 go_wp2_with fail
 refine (H1.out w1).mono ?_
 rintro e w2 ⟨rfl,rfl⟩
 go_wp2_with fail
 refine (H2.out w1).mono ?_
 rintro e w2 ⟨rfl,rfl⟩
 go_wp2_with fail
 refine (HRW.out w1).mono ?_
 rintro e w2 ⟨vr,gs,rfl,hR,hb⟩
 have HO2:=lh (HO1.out.keep fun k hk=>hb.block k hk)
 have HB2:Hid (Below w.heap.size w w2):=HB1.out.trans (hb.mono HB1.out.size)
 have HR:=lh hR
 obtain ⟨nr,hnr⟩:∃nr,nr=R.length:=⟨_,rfl⟩
 obtain ⟨ar,cr,rfl,_,_,hform⟩:=HR.out.form
 have HF:=lh hform
 have HNR:=lh hnr
 rw [←hnr] at HFEW ⊢
 clear hR hb hform hnr HO1 HB1 HRW
 go_wp2_with fail
 go_loopg [11,33] nr (fun g' s11 s33 wx=>∃(k:Nat) (vv:Value) (vals:List LoV),k≤nr∧g'=nr-k∧vv=s11∧s33=.int .i64 k∧Hid (LoO wx w.heap.size vv vals (Sp.lead L p q (R.take k)))∧Hid (Below w.heap.size w wx)∧Hid (KeptT w2 wx))
 case atStart=>exact ⟨0,_,vals,Nat.zero_le _,rfl,rfl,rfl,HO2,HB2,KeptT.refl _⟩
 case round=>
  obtain ⟨k,vv,vals,hk,rfl,rfl,rfl,hO,hbel,hkt⟩:=hrel
  by_cases hkn:k<nr
  ·have i1:(k:Int)<(nr:Int):=by omega
   have hkR:k<R.length:=by rw [←HNR.out];exact hkn
   have hkg:k<gs.length:=by rw [HR.out.len];exact hkR
   obtain ⟨gr,rfl,_,hgr,hcell⟩:=HF.out (by omega)
   have c1:=rowK hkt.out (HR.out.kind gr rfl).2.2 (hcell k hkg hkR)
   have HG:=lh (hkt.out.row (HR.out.row k hkg hkR).2)
   have HSH:=lh (HOK.out R[k] (List.getElem_mem hkR))
   obtain ⟨b1,b2,b3⟩:=HBD.out k (R.take k) (by rw [List.length_take];omega) fun row hr=>(HOK.out row (List.mem_of_mem_take hr)).len
   have HST:Hid (Sp.lead L p q (R.take (k+1))=Sp.leadBy q (Sp.lead L p q (R.take k)) p R[k]):=by
    show _=_
    rw [List.take_succ_eq_append_getElem hkR,Sp.lead_snoc]
   obtain ⟨m,hm⟩:∃m,R[k].length=m:=⟨_,rfl⟩
   have HCL:=lh (leadBy_any wr w.heap.size vv vals _ hO.out p q gs[k] m R[k] (by rw [←HN.out] at b1;omega) HG.out hm (by rw [←hm];exact HSH.out.len) (by rw [←HN.out] at b2;omega) _ b3 (by omega) hbel.out.size HSH.out.rng)
   rw [hm] at c1
   clear hcell hm b1 b2 b3 hO
   go_wp2_with fail
   refine HCL.out.mono ?_
   rintro e w3 ⟨v3,vals3,rfl,hO3,hb3,hk3⟩
   have HO3:Hid (LoO w3 w.heap.size v3 vals3 (Sp.lead L p q (R.take (k+1)))):=by
    show LoO _ _ _ _ _
    rw [HST.out]
    exact hO3
   have HB3:Hid (Below w.heap.size w w3):=hbel.out.trans hb3
   have HK3:Hid (KeptT w2 w3):=hkt.out.trans hk3
   clear hO3 hb3 hk3 c1
   go_wp2_with fail
   go_roundg (nr-(k+1))
   case rel=>exact ⟨k+1,_,vals3,by omega,rfl,rfl,by go_num,HO3,HB3,HK3⟩
   case measure=>omega
  ·obtain rfl:k=nr:=by omega
   have e:R.take k=R:=List.take_of_length_le (by rw [←HNR.out];exact Nat.le_refl _)
   rw [e] at hO
   clear e
   go_wp2_with fail
   go_ret
   exact ⟨_,vals,rfl,hO.out,hbel.out⟩
end
section
open Go.RowKit
theorem row_mono {w:World} {B C:Nat} {t:TypeId} {z:Nat} {v:Value} {n:Nat} {xs:List Value} (h:w.ownsRow B t z v n xs) (hC:C≤B):w.ownsRow C t z v n xs:=by
 refine ⟨h.1,?_⟩
 rcases h.2 with h1 | ⟨g,cap,cur,h1,hg,hr⟩
 ·exact .inl h1
 ·exact .inr ⟨g,cap,cur,h1,Nat.le_trans hC hg,hr⟩
theorem LoO.base {w:World} {B C:Nat} {v:Value} {vals:List LoV} {L:List Au.Lo} (h:LoO w B v vals L) (hC:C≤B):LoO w C v vals L:=
 ⟨row_mono h.own hC,⟨h.each.len,fun j a b=>⟨(h.each.each j a b).1,row_mono (h.each.each j a b).2.1 hC,row_mono (h.each.each j a b).2.2 hC⟩,h.each.apart⟩⟩
theorem losCell_same (n j:Nat):losCell (List.replicate n (false,.slice none 0 0,.slice none 0 0)) j=losCell [] j:=by
 unfold losCell
 rw [List.getD_eq_getElem?_getD,List.getD_eq_getElem?_getD,List.getElem?_replicate]
 split <;> rfl
theorem blank_new (w:World) (n:Nat) (hn:n≤1000):LoO (w.alloc (.cells (madeCells #[.bool false,.slice none 0 0,.slice none 0 0] (n*3)) 152)) w.heap.size (.slice (some ⟨w.heap.size,0,none⟩) n n) (List.replicate n (false,.slice none 0 0,.slice none 0 0)) (Wl.blank n):=by
 have hr:=(madeLo w n).congr fun j _=>(losCell_same n j).symm
 have hbl:(Wl.blank n).length=n:=by simp [Wl.blank]
 refine ⟨?_,?_⟩
 ·have:=own_of_rowIs hr (by simp) (Nat.le_refl _) hn
  show World.ownsRow _ _ _ _ _ (Wl.blank n).length _
  rw [hbl]
  exact this
 ·refine ⟨by rw [hbl];simp,fun j a b=>?_,fun i j hi hj _ g hg=>?_⟩
  ·have e1:(List.replicate n ((false,.slice none 0 0,.slice none 0 0):LoV))[j]=(false,.slice none 0 0,.slice none 0 0):=List.getElem_replicate _
   have e2:(Wl.blank n)[j]=⟨false,[],[]⟩:=List.getElem_replicate _
   rw [e1,e2]
   exact ⟨rfl,World.ownsRow_nil _ _ _ _,World.ownsRow_nil _ _ _ _⟩
  ·rw [List.getElem_replicate] at hg
   cases hg
theorem LoO.fin {w:World} {B G cap p:Nat} {vals:List LoV} {L:List Au.Lo} (h:LoO w B (.slice (some ⟨G,0,none⟩) L.length cap) vals L) (hpv:p<vals.length):
  LoO (w.setCell ⟨G,p*3,none⟩ (.bool true)) B (.slice (some ⟨G,0,none⟩) L.length cap) (vals.set p (true,vals[p].2.1,vals[p].2.2)) (Wl.setF L p):=by
 have hl:=h.each.len
 obtain ⟨hGB,hGl,cG,fzG,hG⟩:=h.kind G rfl
 have far:∀g,g≠G→(w.setCell ⟨G,p*3,none⟩ (.bool true)).heap[g]?=w.heap[g]?:=fun g hne=>Go.Deep.blk_setCell_other _ _ _ _ hne
 refine ⟨?_,?_⟩
 ·have hs:=(h.own.stored (p*3) (.bool true)).1
  have e:(losV vals).set (p*3) (.bool true)=losV (vals.set p (true,vals[p].2.1,vals[p].2.2)):=by
   clear hs far h hl
   induction vals generalizing p with
   | nil=>simp at hpv
   | cons x t ih=>
    cases p with
    | zero=>rfl
    | succ p=>
     have hp':p<t.length:=by simpa using hpv
     have:=ih hp'
     simp only [List.set_cons_succ,List.getElem_cons_succ]
     show (_ :: _ :: _ :: losV t).set ((p+1)*3) (.bool true)=_ :: _ :: _ :: losV _
     rw [show (p+1)*3=p*3+1+1+1 by omega,List.set_cons_succ,List.set_cons_succ,List.set_cons_succ,this]
  rw [e] at hs
  rw [Wl.setF_length]
  exact hs
 ·have hset:∀j (hj:j<(vals.set p (true,vals[p].2.1,vals[p].2.2)).length),(vals.set p (true,vals[p].2.1,vals[p].2.2))[j]=if p=j then (true,vals[p].2.1,vals[p].2.2) else vals[j]'(by simpa using hj):=fun j hj=>by rw [List.getElem_set]
  have hadd:∀j (hj:j<(Wl.setF L p).length),(Wl.setF L p)[j]=if p=j then ⟨true,(L[j]'(by simpa [Wl.setF_length] using hj)).arcs,(L[j]'(by simpa [Wl.setF_length] using hj)).free⟩ else L[j]'(by simpa [Wl.setF_length] using hj):=fun j hj=>by
   have:=Wl.setF_at L p j
   rw [List.getElem?_eq_getElem hj,List.getElem?_eq_getElem (by simpa [Wl.setF_length] using hj)] at this
   simpa using this
  have hboth:∀j (hj:j<(vals.set p (true,vals[p].2.1,vals[p].2.2)).length),((vals.set p (true,vals[p].2.1,vals[p].2.2))[j]).2=(vals[j]'(by simpa using hj)).2:=fun j hj=>by
   rw [hset j hj]
   split
   ·rename_i e;subst e;rfl
   ·rfl
  refine ⟨by rw [List.length_set,Wl.setF_length];exact hl,fun j a b=>?_,fun i j hi hj hne g hgi hgj=>?_⟩
  ·have ha:j<vals.length:=by simpa using a
   obtain ⟨r1,r2,r3⟩:=h.each.each j ha (by omega)
   have q2:OwnA (w.setCell ⟨G,p*3,none⟩ (.bool true)) B vals[j].2.1 (L[j]'(by omega)).arcs:=r2.keep fun k hk=>by
    obtain ⟨c,fz,hc⟩:=r2.kind k hk
    exact far k (kinds_neY hc hG (by decide))
   have q3:OwnZ (w.setCell ⟨G,p*3,none⟩ (.bool true)) B vals[j].2.2 (L[j]'(by omega)).free:=ownsRow_keep r3 fun k hk=>by
    obtain ⟨_,hkl,c,fz,hc⟩:=r3.kind k hk
    exact far k (kinds_neY hc hG (by decide))
   rw [hset j a,hadd j b]
   by_cases e:p=j
   ·subst e
    rw [if_pos rfl,if_pos rfl]
    exact ⟨rfl,q2,q3⟩
   ·rw [if_neg e,if_neg e]
    exact ⟨r1,q2,q3⟩
  ·have hi':i<vals.length:=by simpa using hi
   have hj':j<vals.length:=by simpa using hj
   rw [hboth i hi] at hgi
   rw [hboth j hj] at hgj
   exact h.each.apart i j hi' hj' hne g hgi hgj
namespace Wl
theorem step_star (s:Nat × Bool × List Au.Lo):(stepA s 42).2.2=if s.2.1=true then s.2.2 else Sp.lead s.2.2 s.1 s.1 (Sp.rows 0 1114111):=by
 rw [stepA_star]
theorem step_other (s:Nat × Bool × List Au.Lo) {c:Int} (h:c≠42):(stepA s c).2.2=Sp.lead s.2.2 s.1 (s.1+1) (Sp.rows (rng c).1 (rng c).2):=by
 unfold stepA
 rw [if_neg h]
theorem last_at {xs:List Int} {k:Nat} (h:k<xs.length):(xs.take (k+1)).getLast?=some xs[k]:=by
 rw [List.take_succ_eq_append_getElem h,List.getLast?_append]
 rfl
end Wl
end
section
open Go.RowKit
theorem auto_any (w:World) (v:Value) (xs:List Int) (hv:IntS w v xs) (hx:xs.length≤17):
  Calls Tryz.prog 48 #[v] w fun e w'=>∃v',e=.returned (.tuple #[v',.int .i64 (Au.tightE (Wl.auto xs) 20000)])∧StO w.heap.size w' v' (Au.tightL (Wl.auto xs) 20000)∧Below w.heap.size w w':=by
 have HNS:=lh (notStars_any v xs (by omega) w hv)
 have hle:=Wl.nots_le xs
 have HAT:=lh (fun k=>Wl.runA_at (Wl.nots xs+1) (xs.take k))
 have HLA:=lh (fun k=>Wl.runA_last (Wl.nots xs+1) (xs.take k))
 have HST:=lh (fun k h=>Wl.runA_step (Wl.nots xs+1) xs k h)
 have HMO:Hid (∀k,Wl.nots (xs.take k)≤Wl.nots xs):=fun k=>by
  have:=Wl.nots_append (xs.take k) (xs.drop k)
  rw [List.take_append_drop] at this
  omega
 have HBD:Hid (∀k,Wl.nots xs+1≤(Wl.runA (Wl.nots xs+1) (xs.take k)).2.2.length∧(Wl.runA (Wl.nots xs+1) (xs.take k)).2.2.length≤500∧∀x∈(Wl.runA (Wl.nots xs+1) (xs.take k)).2.2,x.arcs.length≤170∧x.free=[]):=fun k=>by
  obtain ⟨h1,h2,h3⟩:=Wl.run_bound (Wl.nots xs+1) (xs.take k) (by have:=HMO.out k;omega)
  have:(xs.take k).length≤17:=by rw [List.length_take];omega
  exact ⟨h1,by omega,fun x hx=>⟨by have:=(h3 x hx).1;omega,(h3 x hx).2⟩⟩
 have HAU:Hid (Wl.auto xs=Wl.setF (Wl.runA (Wl.nots xs+1) (xs.take xs.length)).2.2 (Wl.nots xs)):=by rw [List.take_length];rfl
 have HAB:=lh (Wl.auto_bound xs hx)
 have HAR:=lh (Wl.auto_rows xs hx)
 have HTT:Hid (∀W u,LoS (fun _=>True) W u (Wl.auto xs)→Calls Tryz.prog 80 #[u,.int .i64 20000] W fun e w'=>∃v,e=.returned (.tuple #[v,.int .i64 (Au.tightE (Wl.auto xs) 20000)])∧StO W.heap.size w' v (Au.tightL (Wl.auto xs) 20000)∧Below W.heap.size W w'):=fun W u hu=>
  tightP_any (fun _=>True) W u (Wl.auto xs) 20000 hu (by have:=HAB.out.2.1;omega) HAR.out (by decide)
 have HNX:Hid (∀k,xs.length≤k→Wl.nots (xs.take k)=Wl.nots xs):=fun k h=>by rw [List.take_of_length_le h]
 have HTS:=lh (fun k (h:k<xs.length)=>Wl.nots_step h)
 obtain ⟨t,ht⟩:∃t,Wl.nots xs=t:=⟨_,rfl⟩
 rw [ht] at HNS HAT HLA HST HMO HBD HAU HNX hle
 obtain ⟨a,cap,rfl,_,_,hv⟩:=hv
 have HV:=lh hv
 obtain ⟨n,hn⟩:∃n,n=xs.length:=⟨_,rfl⟩
 have HN:=lh hn
 rw [←hn] at HNS hx hle ⊢
 have hmk0:=fun w=>makeLo (t+1) (by omega) w
 have hmk:∀w,(Instr.makeSlice 148 (.int .i64 ((t:Int)+1)) (.int .i64 ((t:Int)+1))).run Tryz.prog w=.ok (.slice (some ⟨w.heap.size,0,none⟩) (t+1) (t+1)) (w.alloc (.cells (madeCells #[.bool false,.slice none 0 0,.slice none 0 0] ((t+1)*3)) 152)):=hmk0
 have HO0:=lh (blank_new w (t+1) (by omega))
 have HB0:Hid (Below w.heap.size w (w.alloc (.cells (madeCells #[.bool false,.slice none 0 0,.slice none 0 0] ((t+1)*3)) 152))):=(Below.refl _ _).alloc (Nat.le_refl _) _
 clear hmk0 hv hn ht
 go_enter Tryz.func48,Tryz.ntmps48
 go_wp2_with fail
 refine HNS.out.mono ?_
 rintro e w1 ⟨rfl,rfl⟩
 go_wp2_with fail
 generalize w.alloc (.cells (madeCells #[.bool false,.slice none 0 0,.slice none 0 0] ((t+1)*3)) 152)=w1 at *
 generalize List.replicate (t+1) ((false,.slice none 0 0,.slice none 0 0):LoV)=vals0 at *
 have HZ:Hid (∀W,Below w.heap.size w W→w.heap.size≤W.heap.size):=fun W h=>h.size
 go_loopg [4,5,16] n (fun g s4 s5 s16 wx=>∃(k:Nat) (vv:Value) (vals:List LoV),k≤n∧g=n-k∧vv=s4∧s5=.int .i64 (Wl.nots (xs.take k):Int)∧s16=.int .i64 k∧Hid (LoO wx w.heap.size vv vals (Wl.runA (t+1) (xs.take k)).2.2)∧Hid (Below w.heap.size w wx))
 case atStart=>exact ⟨0,_,vals0,Nat.zero_le _,rfl,rfl,rfl,rfl,HO0,HB0⟩
 case round=>
  obtain ⟨k,vv,vals,hk,rfl,rfl,rfl,rfl,hO,hbel⟩:=hrel
  by_cases hkn:k<n
  ·have i1:(k:Int)<(n:Int):=by omega
   have kx:k<xs.length:=by rw [←HN.out];exact hkn
   obtain ⟨g,o,rfl,hg,hcu⟩:=HV.out (by omega)
   have c1:wr.cell? ⟨g,o+k,none⟩=some (.int .i64 xs[k]):=(hbel.out.cell (p:=⟨g,o+k,none⟩) hg).trans (hcu k kx)
   have hat:=HAT.out k
   have hmo:=HMO.out k
   obtain ⟨b1,b2,b3⟩:=HBD.out k
   have HLD:Hid (∀(p q:Nat) (lo hi:Int),p<t+1→q<t+1→Calls Tryz.prog 79 #[vv,.int .i64 (p:Int),.int .i64 (q:Int),.int .i64 lo,.int .i64 hi] wr fun e w'=>∃v' vals,e=.returned v'∧LoO w' wr.heap.size v' vals (Sp.lead (Wl.runA (t+1) (xs.take k)).2.2 p q (Sp.rows lo hi))∧Below wr.heap.size wr w'):=fun p q lo hi hp hq=>
    lead_any (fun _=>True) wr vv _ (hO.out.los _ fun _ _=>trivial) (by omega) (fun s hs=>⟨by have:=(b3 s hs).1;omega,by rw [(b3 s hs).2];simp⟩) p q lo hi (by omega) (by omega)
   have hst:=HST.out k kx
   have hts:=HTS.out k kx
   have HLK:Hid (0<k→wr.cell? ⟨g,o+(k-1),none⟩=some (.int .i64 (xs[k-1]'(by omega)))):=fun h=>(hbel.out.cell (p:=⟨g,o+(k-1),none⟩) hg).trans (hcu (k-1) (by omega))
   have HLB:Hid ((Wl.runA (t+1) (xs.take k)).2.1=if h:0<k then decide ((xs[k-1]'(by omega))=42) else false):=by
    show _=_
    rw [HLA.out k]
    by_cases h:0<k
    ·rw [dif_pos h]
     have:=Wl.last_at (xs:=xs) (k:=k-1) (by omega)
     rw [show k-1+1=k by omega] at this
     rw [this]
     simp
    ·obtain rfl:k=0:=by omega
     rfl
   by_cases hc:xs[k]=42
   ·have hs2:Hid ((Wl.runA (t+1) (xs.take (k+1))).2.2=if (Wl.runA (t+1) (xs.take k)).2.1=true then (Wl.runA (t+1) (xs.take k)).2.2 else Sp.lead (Wl.runA (t+1) (xs.take k)).2.2 (Wl.nots (xs.take k)) (Wl.nots (xs.take k)) (Sp.rows 0 1114111)):=by
     show _=_
     rw [hst,hc,Wl.step_star,hat]
    have hn2:Hid (Wl.nots (xs.take (k+1))=Wl.nots (xs.take k)):=by show _=_;rw [hts,if_pos hc];rfl
    have HL:=lh (HLD.out (Wl.nots (xs.take k)) (Wl.nots (xs.take k)) 0 1114111 (by omega) (by omega))
    have he':(xs[k] != 42)=false:=by simpa using hc
    rw [hc] at c1
    clear hst hts HLD hcu b1 b2 b3 hat he' hc
    generalize Wl.nots (xs.take k)=at_ at *
    by_cases h0:0<k
    ·have hlk:=HLK.out h0
     have hlb:=HLB.out
     rw [dif_pos h0] at hlb
     have j0:((k:Int)==0)=false:=by simp;omega
     have j1:(0:Int)<(k:Int):=by omega
     by_cases hp:(xs[k-1]'(by omega))=42
     ·rw [hp] at hlk
      rw [decide_eq_true hp] at hlb
      have hO2:Hid (LoO wr w.heap.size vv vals (Wl.runA (t+1) (xs.take (k+1))).2.2):=by
       show LoO _ _ _ _ _
       rw [hs2.out,hlb,if_pos rfl]
       exact hO.out
      clear hp hlb HLB HLK hs2 hO HL
      go_wp2_with fail
      go_roundg (n-(k+1))
      case rel=>exact ⟨k+1,_,vals,by omega,rfl,rfl,by rw [hn2.out],by go_num,hO2,hbel⟩
      case measure=>omega
     ·rw [decide_eq_false hp] at hlb
      have hs3:Hid ((Wl.runA (t+1) (xs.take (k+1))).2.2=Sp.lead (Wl.runA (t+1) (xs.take k)).2.2 at_ at_ (Sp.rows 0 1114111)):=by
       show _=_
       rw [hs2.out,hlb]
       rfl
      have he':((xs[k-1]'(by omega)) != 42)=true:=by simpa using hp
      generalize (xs[k-1]'(by omega))=y at *
      clear hlb HLB HLK hs2 hp
      go_wp2_with fail
      refine HL.out.mono ?_
      rintro e w3 ⟨v3,vals3,rfl,hO3,hb3⟩
      have HO3:Hid (LoO w3 w.heap.size v3 vals3 (Wl.runA (t+1) (xs.take (k+1))).2.2):=by
       show LoO _ _ _ _ _
       rw [hs3.out]
       exact hO3.base hbel.out.size
      have HB3:Hid (Below w.heap.size w w3):=hbel.out.trans (hb3.mono hbel.out.size)
      clear hO3 hb3
      go_wp2_with fail
      go_roundg (n-(k+1))
      case rel=>exact ⟨k+1,_,vals3,by omega,rfl,rfl,by rw [hn2.out],by go_num,HO3,HB3⟩
      case measure=>omega
    ·have hlb:=HLB.out
     rw [dif_neg h0] at hlb
     have hs3:Hid ((Wl.runA (t+1) (xs.take (k+1))).2.2=Sp.lead (Wl.runA (t+1) (xs.take k)).2.2 at_ at_ (Sp.rows 0 1114111)):=by
      show _=_
      rw [hs2.out,hlb]
      rfl
     have j0:((k:Int)==0)=true:=by simp;omega
     clear hlb HLB HLK hs2
     go_wp2_with fail
     refine HL.out.mono ?_
     rintro e w3 ⟨v3,vals3,rfl,hO3,hb3⟩
     have HO3:Hid (LoO w3 w.heap.size v3 vals3 (Wl.runA (t+1) (xs.take (k+1))).2.2):=by
      show LoO _ _ _ _ _
      rw [hs3.out]
      exact hO3.base hbel.out.size
     have HB3:Hid (Below w.heap.size w w3):=hbel.out.trans (hb3.mono hbel.out.size)
     clear hO3 hb3
     go_wp2_with fail
     go_roundg (n-(k+1))
     case rel=>exact ⟨k+1,_,vals3,by omega,rfl,rfl,by rw [hn2.out],by go_num,HO3,HB3⟩
     case measure=>omega
   ·have hs3:Hid ((Wl.runA (t+1) (xs.take (k+1))).2.2=Sp.lead (Wl.runA (t+1) (xs.take k)).2.2 (Wl.nots (xs.take k)) (Wl.nots (xs.take k)+1) (Sp.rows (Wl.rng xs[k]).1 (Wl.rng xs[k]).2)):=by
     show _=_
     rw [hst,Wl.step_other _ hc,hat]
    have hn2:Hid (Wl.nots (xs.take (k+1))=Wl.nots (xs.take k)+1):=by show _=_;rw [hts,if_neg hc]
    have hmo2:=HMO.out (k+1)
    rw [hn2.out] at hmo2
    have HL:=lh (HLD.out (Wl.nots (xs.take k)) (Wl.nots (xs.take k)+1) (Wl.rng xs[k]).1 (Wl.rng xs[k]).2 (by omega) (by omega))
    have HCO:=lh (chars_of xs[k] wr)
    have he':(xs[k] != 42)=true:=by simpa using hc
    clear hst hts HLD hcu b1 b2 b3 hat hc HLK HLB hmo2
    generalize Wl.rng xs[k]=lh at *
    obtain ⟨lo,hi⟩:=lh
    generalize xs[k]=x at *
    generalize Wl.nots (xs.take k)=at_ at *
    have HL2:Hid (Calls Tryz.prog 79 #[vv,.int .i64 (at_:Int),.int .i64 ((at_:Int)+1),.int .i64 lo,.int .i64 hi] wr fun e w'=>∃v' vals,e=.returned v'∧LoO w' wr.heap.size v' vals (Sp.lead (Wl.runA (t+1) (xs.take k)).2.2 at_ (at_+1) (Sp.rows lo hi))∧Below wr.heap.size wr w'):=HL.out
    clear HL
    go_wp2_with fail
    refine HCO.out.mono ?_
    rintro e w3 ⟨rfl,rfl⟩
    go_wp2_with fail
    refine HL2.out.mono ?_
    rintro e w3 ⟨v3,vals3,rfl,hO3,hb3⟩
    have HO3:Hid (LoO w3 w.heap.size v3 vals3 (Wl.runA (t+1) (xs.take (k+1))).2.2):=by
     show LoO _ _ _ _ _
     rw [hs3.out]
     exact hO3.base hbel.out.size
    have HB3:Hid (Below w.heap.size w w3):=hbel.out.trans (hb3.mono hbel.out.size)
    clear hO3 hb3
    go_wp2_with fail
    go_roundg (n-(k+1))
    case rel=>exact ⟨k+1,_,vals3,by omega,rfl,rfl,by rw [hn2.out];go_num,by go_num,HO3,HB3⟩
    case measure=>omega
  ·obtain rfl:k=n:=by omega
   have i1:¬(k:Int)<(k:Int):=by omega
   have e1:=HNX.out k (by rw [HN.out];exact Nat.le_refl _)
   obtain ⟨b1,b2,b3⟩:=HBD.out k
   rw [e1]
   have HAU2:Hid (Wl.auto xs=Wl.setF (Wl.runA (t+1) (xs.take k)).2.2 t):=by rw [HN.out];exact HAU.out
   generalize (Wl.runA (t+1) (xs.take k)).2.2=L at *
   obtain ⟨G,cp,rfl,hc1,hc2,hGB,hGl,_,hfz,hcl⟩:=hO.out.form (by omega)
   have hvl:=hO.out.each.len
   have hvl2:t<vals.length:=by omega
   obtain ⟨d1,_,_⟩:=hcl t hvl2
   have f1:=hfz (t*3)
   have HOF:=lh (hO.out.fin (p:=t) (by omega))
   obtain ⟨m,hm⟩:∃m,m=L.length:=⟨_,rfl⟩
   have HLS:Hid (LoS (fun _=>True) (wr.setCell ⟨G,t*3,none⟩ (.bool true)) (.slice (some ⟨G,0,none⟩) m cp) (Wl.auto xs)):=by
    rw [HAU2.out,hm]
    exact HOF.out.los _ fun _ _=>trivial
   have HT:=lh (HTT.out _ _ HLS.out)
   have HB2:Hid (Below w.heap.size w (wr.setCell ⟨G,t*3,none⟩ (.bool true))):=hbel.out.setCell (p:=⟨G,t*3,none⟩) hGB _
   rw [←hm] at b1 b2 hc1 ⊢
   have i2:(t:Int)<(m:Int):=by omega
   clear hcl hfz HOF b3 hm e1 HLS HTT
   go_wp2_with fail
   generalize wr.setCell ⟨G,t*3,none⟩ (.bool true)=w4 at *
   refine HT.out.mono ?_
   rintro e w5 ⟨v5,rfl,hs5,hb5⟩
   have HS5:Hid (StO w.heap.size w5 v5 (Au.tightL (Wl.auto xs) 20000)):=hs5.lower HB2.out.size
   have HB5:Hid (Below w.heap.size w w5):=HB2.out.trans (hb5.mono HB2.out.size)
   clear hs5 hb5
   go_wp2_with fail
   go_ret2
   exact ⟨_,rfl,HS5.out,HB5.out⟩
end
namespace frame5
open Go.ChangeShapes Go.WideShapes Go.ChangeAt Go.RowKit Go.Lib
open Go.ChangeMaps (open_string shut_string)
theorem own:ownKnob Tryz.prog.godebug=none:=by kernel_rfl
theorem laidOut:laidOutB Tryz.prog=true:=by kernel_rfl
theorem bound {H:Type} {l:List (DataW H)} (hk:Rows.uptoSmall H l=true):Rows.uptoBulkAll l≤1048576:=of_decide_eq_true hk
def cellsIn (cs:Array Value):Obj→Obj
 | .cells _ t frozen=>.cells cs t frozen
 | o=>o
noncomputable def laidWorld (os:Os):World:=
 { World.holding Tryz.prog os ⟨#[],#[],[]⟩ with heap:=((World.holding Tryz.prog os ⟨#[],#[],[]⟩).heap.modify 1 (cellsIn (Go.Pinned.utf8FirstZ.map fun (n:Nat)=>Value.int .u8 (n:Int)).toArray)).modify 2 (cellsIn (#[128,191,160,191,128,159,144,191,128,143,0,0,0,0,0,0,0,0,0,0,0,0,0,0,0,0,0,0,0,0,0,0].map fun (n:Int)=>Value.int .u8 n))}
def listed : List (String × DataW Unit) := [("unicode/utf8.acceptRanges", Rows.laid_unicode_utf8_acceptRanges), ("unicode/utf8.first", Rows.laid_unicode_utf8_first)]
theorem accept_eq:Rows.laid_unicode_utf8_acceptRanges (H:=Unit)=acceptData:=by kernel_rfl
theorem first_eq:Rows.laid_unicode_utf8_first=firstData:=Pinned.utf8First_eq
theorem tabs_of {W:World} (hL:laidMet Tryz.prog listed W):Tabs W:=by
 unfold listed at hL
 rw [accept_eq,first_eq] at hL
 exact utf8Tabs_of_readsT (U8Types.of196 Tryz.lays196) ⟨by kernel_rfl,by kernel_rfl,by kernel_rfl,by kernel_rfl,by kernel_rfl,by kernel_rfl,by kernel_rfl⟩ (Lib.laidMet.reads hL (.tail _ (.head _))) (Lib.laidMet.reads hL (.head _))
end frame5
end Go.Proofs.YtmdefnbpimfbgaaGreatDoor

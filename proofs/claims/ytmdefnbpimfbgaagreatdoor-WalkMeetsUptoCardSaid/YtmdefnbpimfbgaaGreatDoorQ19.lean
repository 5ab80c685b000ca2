/-
  Lemmas on automata, dictionaries and the walk over them, the program's calls and the given ones.
-/
import Derived.Test.YtmdefnbpimfbgaaGreatDoorQ18
import Derived.Test.YtmdefnbpimfbgaaGreatDoorQ14
import Derived.Deep.SlicePairs
set_option maxRecDepth 100000
set_option maxHeartbeats 16000000
namespace Go.Proofs.YtmdefnbpimfbgaaGreatDoor
namespace F12
open Go.RowKit Go.Maps
theorem rdS_made {w W2:World} {b:Nat} {s:List UInt8} {L:Int} (hk:KeptF (fun k=>k=b) w W2) (hlt:b<w.heap.size) (hc:CurT W2 b s):RdS w (W2.alloc (.cells #[.slice none 0 0,.int .i64 L,.int .i64 0] 135)) b s L [] [] (.slice none 0 0) (.pointer (some ⟨W2.heap.size,0,none⟩)):=by
 have hb:Below W2.heap.size W2 (W2.alloc (.cells #[.slice none 0 0,.int .i64 L,.int .i64 0] 135)):=(Below.refl _ _).alloc (Nat.le_refl _) _
 refine ⟨RowT.keep hc (hb.block _ (RowT.lt hc)),hk.trans (KeptF.of_below hb),hlt,World.ownsRow_nil _ _ _ _,.inr ⟨W2.heap.size,.slice none 0 0,rfl,hk.size,Go.Deep.blk_alloc_new _ _,NodO.nil _ _,Fs.Rel.nil⟩⟩
theorem read_bad1 (s:List UInt8) (b:Nat) (w:World) (hc:CurT w b s) (hs:s.length≤4194304) (he:Fs.cE s≠0):
  Calls Tryz.prog 43 #[.pointer (some ⟨b,0,none⟩)] w fun e w'=>e=.returned (.tuple #[.pointer none,.int .i64 (Fs.cE s)])∧KeptF (fun k=>k=b) w w':=by
 have HC:=count_c s b w hc (by omega)
 have hk:KeptF (fun k=>k=b) w (w.setCell ⟨b,0,none⟩ (.string (bs (Fs.past s)))):=KeptF.set (F:=fun k=>k=b) (KeptF.refl _ _) b 0 rfl _
 obtain ⟨W1,hW1⟩:∃W1,W1=w.setCell ⟨b,0,none⟩ (.string (bs (Fs.past s))):=⟨_,rfl⟩
 rw [←hW1] at HC hk
 have HK:=lh hk
 have HC:=lh HC
 generalize Fs.cE s=E at *
 generalize Fs.cN s=x0 at *
 have he2:¬E=0:=he
 clear hW1 hk hc hs
 go_enter Tryz.func43,Tryz.ntmps43
 go_wp2_with (go_at_call 68;refine HC.out.mono ?_;rintro e1 w1 ⟨rfl,rfl⟩)
 go_ret2
 exact ⟨rfl,HK.out⟩
theorem read_bad2 (s:List UInt8) (b:Nat) (w:World) (hc:CurT w b s) (hs:s.length≤4194304) (he:Fs.cE s=0) (he2:Fs.cE (Fs.past s)≠0):
  Calls Tryz.prog 43 #[.pointer (some ⟨b,0,none⟩)] w fun e w'=>e=.returned (.tuple #[.pointer none,.int .i64 (Fs.cE (Fs.past s))])∧KeptF (fun k=>k=b) w w':=by
 have HC:=count_c s b w hc (by omega)
 have HC2:=count_c (Fs.past s) b (w.setCell ⟨b,0,none⟩ (.string (bs (Fs.past s)))) (hc.set _) (by have:=Fs.past_le s;omega)
 have hk:KeptF (fun k=>k=b) w ((w.setCell ⟨b,0,none⟩ (.string (bs (Fs.past s)))).setCell ⟨b,0,none⟩ (.string (bs (Fs.past (Fs.past s))))):=KeptF.set (F:=fun k=>k=b) (KeptF.set (F:=fun k=>k=b) (KeptF.refl _ _) b 0 rfl _) b 0 rfl _
 obtain ⟨W1,hW1⟩:∃W1,W1=w.setCell ⟨b,0,none⟩ (.string (bs (Fs.past s))):=⟨_,rfl⟩
 rw [←hW1] at HC HC2 hk
 obtain ⟨W2,hW2⟩:∃W2,W2=W1.setCell ⟨b,0,none⟩ (.string (bs (Fs.past (Fs.past s)))):=⟨_,rfl⟩
 rw [←hW2] at HC2 hk
 rw [he] at HC
 have HK:=lh hk
 have HC:=lh HC
 have HC2:=lh HC2
 clear hW1 hW2 hk he
 generalize Fs.cE (Fs.past s)=E at *
 generalize Fs.cN s=x0 at *
 generalize Fs.cN (Fs.past s)=x1 at *
 have he3:¬E=0:=he2
 clear hc hs
 go_enter Tryz.func43,Tryz.ntmps43
 go_wp2_with (go_at_call 68;first | (refine HC.out.mono ?_;rintro e1 w1 ⟨rfl,rfl⟩) | (refine HC2.out.mono ?_;rintro e1 w1 ⟨rfl,rfl⟩))
 go_ret2
 exact ⟨rfl,HK.out⟩
theorem read_good (s:List UInt8) (b:Nat) (w:World) (hc:CurT w b s) (hs:s.length≤4194304) (he:Fs.cE s=0) (he2:Fs.cE (Fs.past s)=0):
  Calls Tryz.prog 43 #[.pointer (some ⟨b,0,none⟩)] w (ReadPost w b (Fs.rdNs (Fs.cN s).toNat (Fs.past (Fs.past s)) [] []) (Fs.cN (Fs.past s))):=by
 have HC:=count_c s b w hc (by omega)
 have HC2:=count_c (Fs.past s) b (w.setCell ⟨b,0,none⟩ (.string (bs (Fs.past s)))) (hc.set _) (by have:=Fs.past_le s;omega)
 have hk:KeptF (fun k=>k=b) w ((w.setCell ⟨b,0,none⟩ (.string (bs (Fs.past s)))).setCell ⟨b,0,none⟩ (.string (bs (Fs.past (Fs.past s))))):=KeptF.set (F:=fun k=>k=b) (KeptF.set (F:=fun k=>k=b) (KeptF.refl _ _) b 0 rfl _) b 0 rfl _
 have hc2:=(hc.set (Fs.past s)).set (Fs.past (Fs.past s))
 have hs2:(Fs.past (Fs.past s)).length≤s.length:=Nat.le_trans (Fs.past_le _) (Fs.past_le _)
 obtain ⟨W1,hW1⟩:∃W1,W1=w.setCell ⟨b,0,none⟩ (.string (bs (Fs.past s))):=⟨_,rfl⟩
 rw [←hW1] at HC HC2 hk hc2
 obtain ⟨W2,hW2⟩:∃W2,W2=W1.setCell ⟨b,0,none⟩ (.string (bs (Fs.past (Fs.past s)))):=⟨_,rfl⟩
 rw [←hW2] at HC2 hk hc2
 rw [he] at HC
 rw [he2] at HC2
 have hbn:=cN_bd s
 have hbl:=cN_bd (Fs.past s)
 obtain ⟨n,hn⟩:=Int.eq_ofNat_of_zero_le hbn.1
 rw [hn] at HC hbn ⊢
 rw [Int.toNat_natCast]
 generalize Fs.cN (Fs.past s)=L at *
 generalize Fs.past (Fs.past s)=s0 at *
 have HST:=lh (rdS_made (L:=L) hk (RowT.lt hc) hc2)
 have HC:=lh HC
 have HC2:=lh HC2
 obtain ⟨R,hR⟩:∃R,R=Fs.rdNs n s0 [] []:=⟨_,rfl⟩
 have HR0:Hid (Fs.rdNs n s0 [] []=R):=hR.symm
 rw [←hR]
 obtain ⟨nb,hnb⟩:∃nb,nb=b:=⟨_,rfl⟩
 clear hW1 hW2 hk hc2 hc he he2 hR hn hnb nb
 have hl0:s0.length≤4194304:=by omega
 clear hs2 hs
 go_enter Tryz.func43,Tryz.ntmps43
 go_wp2_with (go_at_call 68;first | (refine HC.out.mono ?_;rintro e1 w1 ⟨rfl,rfl⟩) | (refine HC2.out.mono ?_;rintro e1 w1 ⟨rfl,rfl⟩))
 go_loopg [7,8,33] n (fun gg s7 s8 s33 wx=>∃(j:Nat) (s':List UInt8) (N:List Fs.Nd) (T:List (List Fs.En)) (bv dv:Value),j≤n∧gg=n-j∧dv=s7∧bv=s8∧s33=.int .i64 (j:Int)∧Hid (N.length=j∧T.length=j)∧Hid (∀t∈T,¬Fs.Wide t)∧Hid (Fs.rdNs (n-j) s' N T=R)∧Hid (j+s'.length≤4194304)∧Hid (RdS w wx b s' L N T bv dv))
 case atStart=>exact ⟨0,s0,[],[],_,_,Nat.zero_le _,rfl,rfl,rfl,rfl,⟨rfl,rfl⟩,fun _ q=>absurd q List.not_mem_nil,HR0.out,(by show 0+_≤_;omega),HST.out⟩
 case round=>
  clear HC HC2 HST HR0
  obtain ⟨j,s',N,T,bv,dv,hj,rfl,rfl,rfl,rfl,hNT,hWd,hE,hL,hS⟩:=hrel
  have hjb:j≤4194304:=by have:=hL.out;omega
  by_cases hjn:j<n
  ·have i1:(j:Int)<(n:Int):=by omega
   have hRD:=readNode_any s' b j wr hS.out.cur (by have:=hL.out;omega)
   have hNj:=hNT.out.1
   by_cases hbad:(Fs.rdN j s').1=0
   ·have hto:=Fs.rdN_to hbad
    have hlt:=Fs.rdN_lt hbad
    have hE2:¬Fs.Wide (Fs.ent T (Fs.rdN j s').2.1)→Fs.rdNs (n-(j+1)) (Fs.rdN j s').2.2 (N++[(Fs.rdN j s').2.1]) (T++[Fs.ent T (Fs.rdN j s').2.1])=R:=fun h=>by
     have hE:=hE.out
     rw [show n-j=(n-(j+1))+1 by omega,Fs.rdNs_ok (by rw [hNj];exact hbad) (by rw [hNj];exact h),hNj] at hE
     exact hE
    have hE3:Fs.Wide (Fs.ent T (Fs.rdN j s').2.1)→R.1=3:=fun h=>by
     have hE:=hE.out
     rw [show n-j=(n-(j+1))+1 by omega,Fs.rdNs_wide (by rw [hNj];exact hbad) (by rw [hNj];exact h)] at hE
     rw [←hE]
    unfold RdPost at hRD
    rw [hbad] at hRD
    generalize (Fs.rdN j s').2.1=d at *
    generalize (Fs.rdN j s').2.2=s2 at *
    obtain ⟨t,ht⟩:∃t,t=Fs.ent T d:=⟨_,rfl⟩
    rw [←ht] at hE2 hE3
    obtain ⟨f1,hf1⟩:∃f1,f1=d.1.isSome:=⟨_,rfl⟩
    obtain ⟨o1,ho1⟩:∃o1,o1=d.1.getD 0:=⟨_,rfl⟩
    obtain ⟨nw,hnw⟩:∃nw,nw=d.2.length:=⟨_,rfl⟩
    obtain ⟨tl,htl⟩:∃tl,tl=t.length:=⟨_,rfl⟩
    obtain ⟨dp,hdp⟩:∃dp,dp=Fs.deep t:=⟨_,rfl⟩
    have HTL:=lh htl
    have HDP:=lh hdp
    have HTT:=lh ht
    have HTO:=lh hto
    have HLT:=lh hlt
    have HE2:=lh hE2
    have HE3:=lh hE3
    obtain ⟨ab,cb,rfl⟩:∃a c,bv=.slice a j c:=by
     obtain ⟨a,c,h1,_⟩:=own_form hS.out.rst
     rw [List.length_map,hNT.out.2] at h1
     exact ⟨a,c,h1⟩
    have HRD:Hid (Calls Tryz.prog 69 #[.pointer (some ⟨b,0,none⟩),.int .i64 (j:Int)] wr fun e w'=>∃av cv,e=.returned (.tuple #[.agg #[.bool f1,.int .i64 o1,.slice av nw cv],.int .i64 0])∧RdS w w' b s2 L N T (.slice ab j cb) dv∧OwnY w' w.heap.size (.slice av nw cv) d.2):=by
     refine hRD.mono ?_
     rintro e w' ⟨hk,⟨h0,_⟩ | ⟨_,v,he,ho,hcu⟩⟩
     ·exact absurd rfl h0
     ·obtain ⟨av,cv,rfl,_⟩:=own_form ho
      rw [←hnw] at he ho
      rw [he,hf1,ho1]
      exact ⟨av,cv,rfl,hS.out.turn hk hcu,ownsRow_base ho hS.out.size⟩
    have HRS:Hid (∀w1 av cv,RdS w w1 b s2 L N T (.slice ab j cb) dv→OwnY w1 w.heap.size (.slice av nw cv) d.2→Calls Tryz.prog 70 #[.agg #[.bool f1,.int .i64 o1,.slice av nw cv],.slice ab j cb] (w1.alloc (.cells #[.bool f1,.int .i64 o1,.slice av nw cv] 115)) fun e w'=>e=.returned (.agg #[.int .i32 (tl:Int),.int .i32 (dp:Int)])∧RdS w w' b s2 L N T (.slice ab j cb) dv∧OwnY w' w.heap.size (.slice av nw cv) d.2∧RowT 115 w' w1.heap.size #[.bool f1,.int .i64 o1,.slice av nw cv]∧KindK [135,115,118] w1 w'):=fun w1 av cv h1 h2=>by
     have hb:Below w1.heap.size w1 (w1.alloc (.cells #[.bool f1,.int .i64 o1,.slice av nw cv] 115)):=(Below.refl _ _).alloc (Nat.le_refl _) _
     have h3:=h1.below hb
     have h4:OwnY (w1.alloc (.cells #[.bool f1,.int .i64 o1,.slice av nw cv] 115)) w.heap.size (.slice av nw cv) d.2:=World.ownsRow.alloc h2 _
     have hq:=restsN_any _ d (.slice av nw cv) (.slice ab j cb) T h4.ways h3.rst.rst hto.2.1 (by rw [hNT.out.2];exact hto.1) hWd.out
     rw [←ht,←htl,←hdp,←hf1,←ho1] at hq
     refine hq.mono ?_
     rintro e w' ⟨rfl,hb2⟩
     refine ⟨rfl,h3.below hb2,ownsRow_keep h4 fun k hk=>hb2.block k (own_kind h4 k hk).2.1,RowT.keep (Go.Deep.blk_alloc_new _ _) (hb2.block _ (by simp)),KindK.of_below (hb.trans (hb2.mono (by simp)))⟩
    have HPU:Hid (∀w4 w5 g cap,RdS w w4 b s2 L N T (.slice ab j cb) dv→w5.ownsRow w.heap.size 140 2 (.slice (some ⟨g,0,none⟩) (j+1) cap) (j+1) (rsV (T.map Fs.num)++[.int .i32 (tl:Int),.int .i32 (dp:Int)])→Grew w4 w5 (.slice ab j cb) (.slice (some ⟨g,0,none⟩) (j+1) cap)→CurT w5 b s2∧KeptF (fun k=>k=b) w w5∧OwnR w5 w.heap.size (.slice (some ⟨g,0,none⟩) (j+1) cap) ((T++[t]).map Fs.num)∧DicO w.heap.size w5 L N T dv∧KindK [135,115,118] w4 w5):=fun w4 w5 g cap h1 h2 h3=>by
     rw [htl,hdp] at h2
     exact h1.push hNT.out.2.symm h2 h3
    have HOW:Hid (∀w4,RdS w w4 b s2 L N T (.slice ab j cb) dv→w4.ownsRow w.heap.size 140 2 (.slice ab j cb) j (rsV (T.map Fs.num))):=fun w4 h=>by
     have h1:=h.rst
     unfold OwnR at h1
     rw [List.length_map,hNT.out.2] at h1
     exact h1
    have HFAR:Hid (∀w3 w5 v',RdS w w3 b s2 L N T (.slice ab j cb) dv→Grew (w3.alloc (.cells #[.int .i32 (tl:Int),.int .i32 (dp:Int)] 140)) w5 (.slice ab j cb) v'→RowT 140 w5 w3.heap.size #[.int .i32 (tl:Int),.int .i32 (dp:Int)]):=fun w3 w5 v' h hg=>by
     refine RowT.keep (Go.Deep.blk_alloc_new _ _) (hg.far (by simp) fun q=>?_)
     have:=(own_kind h.rst _ q).2.1
     omega
    have HLF:Hid (∀(w3:World) (c:Obj),RdS w w3 b s2 L N T (.slice ab j cb) dv→RdS w (w3.alloc c) b s2 L N T (.slice ab j cb) dv):=fun w3 c h=>h.below ((Below.refl _ _).alloc (Nat.le_refl _) _)
    obtain ⟨iR,hiR,hyR0,hyR1,hyR2⟩:=info_parts Tryz.infoR
    by_cases hw1:65536<tl
    ·have HR3:Hid (R.1=3):=hE3 (.inl (by rw [←htl];exact hw1))
     have j1:(65536:Int)<(tl:Int):=by omega
     clear hRD hbad hto hlt hE2 hE3 ht htl hdp hf1 ho1 hnw hE hNj hWd hNT hS hL
     go_wp2_with (first | (go_at_call 69;go_loud ((refine HRD.out.mono ?_;rintro e1 w1 ⟨av,cv,rfl,hs1,hy1⟩;have HS1:=lh hs1;have HY1:=lh hy1;clear hs1 hy1))) | (go_at_call 70;go_loud ((refine (HRS.out w1 av cv HS1.out HY1.out).mono ?_;rintro e3 w3 ⟨rfl,hs3,hy3,hn3,hk3⟩;have HK3:=lh hk3;have HS3:=lh hs3;have HY3:=lh hy3;have HN3:=lh hn3;clear hs3 hy3 hn3 hk3))))
     try rw [Exit.noGoto_ret]
     go_ret2
     exact ⟨(HLF.out w3 _ HS3.out).kept,.inl ⟨by rw [HR3.out];decide,by rw [HR3.out];rfl⟩⟩
    ·have j1:¬(65536:Int)<(tl:Int):=by omega
     by_cases hw2:64<dp
     ·have HR3:Hid (R.1=3):=hE3 (.inr (by rw [←hdp];exact hw2))
      have j2:(64:Int)<(dp:Int):=by omega
      clear hRD hbad hto hlt hE2 hE3 ht htl hdp hf1 ho1 hnw hE hNj hWd hNT hS hL
      go_wp2_with (first | (go_at_call 69;go_loud ((refine HRD.out.mono ?_;rintro e1 w1 ⟨av,cv,rfl,hs1,hy1⟩;have HS1:=lh hs1;have HY1:=lh hy1;clear hs1 hy1))) | (go_at_call 70;go_loud ((refine (HRS.out w1 av cv HS1.out HY1.out).mono ?_;rintro e3 w3 ⟨rfl,hs3,hy3,hn3,hk3⟩;have HK3:=lh hk3;have HS3:=lh hs3;have HY3:=lh hy3;have HN3:=lh hn3;clear hs3 hy3 hn3 hk3))))
      try rw [Exit.noGoto_ret]
      go_ret2
      exact ⟨(HLF.out w3 _ HS3.out).kept,.inl ⟨by rw [HR3.out];decide,by rw [HR3.out];rfl⟩⟩
     ·have j2:¬(64:Int)<(dp:Int):=by omega
      have hnw3:¬Fs.Wide t:=by
       unfold Fs.Wide
       omega
      have HE4:=lh (hE2 hnw3)
      have HW4:Hid (∀x∈T++[t],¬Fs.Wide x):=fun x hx=>by
       rcases List.mem_append.1 hx with q | q
       ·exact hWd.out x q
       ·rw [List.mem_singleton.1 q];exact hnw3
      have HNT4:Hid ((N++[d]).length=j+1∧(T++[t]).length=j+1):=by
       show _∧_
       rw [List.length_append,List.length_append,hNT.out.1,hNT.out.2]
       exact ⟨rfl,rfl⟩
      have HL4:Hid (j+1+s2.length≤4194304):=by
       have:=hL.out
       show _≤_
       omega
      have hdic:=hS.out.dic
      have HNW3:=lh hnw3
      have HLT0:=lh hS.out.lt
      have jq:((j:Int)==4194305)=false:=by
       rw [beq_eq_false_iff_ne]
       omega
      have hbj:j+1≤140737488355328:=by omega
      have hbj2:(j+1)*8≤140737488355328:=by omega
      rcases hdic with ⟨rfl,hemp⟩ | ⟨db,nv,rfl,hdb,-,-,hRel⟩
      ·by_cases ht0:t=[]
       case' pos=>
        have q0:((tl:Int)==0)=true:=by rw [htl,ht0];rfl
       case' neg=>
        have q0:((tl:Int)==0)=false:=by
         have:=List.length_pos_iff.2 ht0
         rw [beq_eq_false_iff_ne]
         omega
       all_goals
        clear hRD hbad hto hlt hE2 hE3 ht htl hdp hf1 ho1 hnw hE hNj hWd hNT hS hL hnw3 ht0 hemp hw1 hw2
        go_wp2_with (first | (go_at_call 69;go_loud ((refine HRD.out.mono ?_;rintro e1 w1 ⟨av,cv,rfl,hs1,hy1⟩;have HS1:=lh hs1;have HY1:=lh hy1;clear hs1 hy1))) | (go_at_call 70;go_loud ((refine (HRS.out w1 av cv HS1.out HY1.out).mono ?_;rintro e3 w3 ⟨rfl,hs3,hy3,hn3,hk3⟩;have HK3:=lh hk3;have HS3:=lh hs3;have HY3:=lh hy3;have HN3:=lh hn3;have HS4:=lh (HLF.out w3 (.cells #[.int .i32 (tl:Int),.int .i32 (dp:Int)] 140) hs3);have hsz4:w.heap.size≤(w3.alloc (.cells #[.int .i32 (tl:Int),.int .i32 (dp:Int)] 140)).heap.size:=HS4.out.size;clear hs3 hy3 hn3 hk3))) | (at_builtin;go_loud ((refine wpList_pushR rfl _ _ 136 140 rfl iR _ 2 8 Tryz.underlying136 hiR hyR0 hyR1 hyR2 rfl (by decide) w.heap.size hsz4 (.slice ab j cb) j (rsV (T.map Fs.num)) rfl (HOW.out _ HS4.out) [.int .i32 (tl:Int),.int .i32 (dp:Int)] rfl (one_of rfl) (by rw [World.size_alloc];rfl) hbj2 hbj ?_;intro g5 cap5 w5 hown5 hgr5;have HP5:=lh (HPU.out _ w5 g5 cap5 HS4.out hown5 hgr5);have hq5:=HFAR.out w3 w5 _ HS3.out hgr5;have HQ5:=lh hq5;have q5:w5.cell? ⟨w3.heap.size,0,none⟩=some (.int .i32 (tl:Int)):=hq5.cell 0;have hn5:=RowT.kk (RowT.keep HN3.out (Go.Deep.blk_alloc_lt _ _ _ HN3.out.lt)) HP5.out.2.2.2.2 (by decide);have HN5:=lh hn5;have HY5:Hid (OwnY w5 w.heap.size (.slice av nw cv) d.2):=ownsRow_kk (World.ownsRow.alloc HY3.out _) HP5.out.2.2.2.2 (by decide);clear hown5 hgr5 hq5 hn5))))
        have HFIN:Hid (RdS w w5 b s2 L (N++[d]) (T++[t]) (.slice (some ⟨g5,0,none⟩) (j+1) cap5) (.pointer none)):=⟨HP5.out.1,HP5.out.2.1,HLT0.out,HP5.out.2.2.1,HP5.out.2.2.2.1.none_snoc⟩
        go_roundg (n-(j+1))
        case rel=>exact ⟨j+1,s2,N++[d],T++[t],_,_,by omega,rfl,rfl,rfl,by go_num,HNT4,HW4,HE4,HL4,HFIN⟩
        case measure=>omega
      ·by_cases ht0:t=[]
       ·have q0:((tl:Int)==0)=true:=by rw [htl,ht0];rfl
        have HT0:=lh ht0
        clear hRD hbad hto hlt hE2 hE3 ht htl hdp hf1 ho1 hnw hE hNj hWd hNT hS hL hnw3 ht0 hRel hdb hw1 hw2
        go_wp2_with (first | (go_at_call 69;go_loud ((refine HRD.out.mono ?_;rintro e1 w1 ⟨av,cv,rfl,hs1,hy1⟩;have HS1:=lh hs1;have HY1:=lh hy1;clear hs1 hy1))) | (go_at_call 70;go_loud ((refine (HRS.out w1 av cv HS1.out HY1.out).mono ?_;rintro e3 w3 ⟨rfl,hs3,hy3,hn3,hk3⟩;have HK3:=lh hk3;have HS3:=lh hs3;have HY3:=lh hy3;have HN3:=lh hn3;have HS4:=lh (HLF.out w3 (.cells #[.int .i32 (tl:Int),.int .i32 (dp:Int)] 140) hs3);have hsz4:w.heap.size≤(w3.alloc (.cells #[.int .i32 (tl:Int),.int .i32 (dp:Int)] 140)).heap.size:=HS4.out.size;clear hs3 hy3 hn3 hk3))) | (at_builtin;go_loud ((refine wpList_pushR rfl _ _ 136 140 rfl iR _ 2 8 Tryz.underlying136 hiR hyR0 hyR1 hyR2 rfl (by decide) w.heap.size hsz4 (.slice ab j cb) j (rsV (T.map Fs.num)) rfl (HOW.out _ HS4.out) [.int .i32 (tl:Int),.int .i32 (dp:Int)] rfl (one_of rfl) (by rw [World.size_alloc];rfl) hbj2 hbj ?_;intro g5 cap5 w5 hown5 hgr5;have HP5:=lh (HPU.out _ w5 g5 cap5 HS4.out hown5 hgr5);have hq5:=HFAR.out w3 w5 _ HS3.out hgr5;have HQ5:=lh hq5;have q5:w5.cell? ⟨w3.heap.size,0,none⟩=some (.int .i32 (tl:Int)):=hq5.cell 0;have hn5:=RowT.kk (RowT.keep HN3.out (Go.Deep.blk_alloc_lt _ _ _ HN3.out.lt)) HP5.out.2.2.2.2 (by decide);have HN5:=lh hn5;have HY5:Hid (OwnY w5 w.heap.size (.slice av nw cv) d.2):=ownsRow_kk (World.ownsRow.alloc HY3.out _) HP5.out.2.2.2.2 (by decide);clear hown5 hgr5 hq5 hn5))))
        have HFIN:Hid (RdS w w5 b s2 L (N++[d]) (T++[t]) (.slice (some ⟨g5,0,none⟩) (j+1) cap5) (.pointer none)):=⟨HP5.out.1,HP5.out.2.1,HLT0.out,HP5.out.2.2.1,DicO.none_of HT0.out⟩
        go_roundg (n-(j+1))
        case rel=>exact ⟨j+1,s2,N++[d],T++[t],_,_,by omega,rfl,rfl,rfl,by go_num,HNT4,HW4,HE4,HL4,HFIN⟩
        case measure=>omega
       ·have q0:((tl:Int)==0)=false:=by
         have:=List.length_pos_iff.2 ht0
         rw [beq_eq_false_iff_ne]
         omega
        have HT0:=lh ht0
        have HREL:=lh hRel
        have HDB:=lh hdb
        have HF1:=lh hf1
        have HO1:=lh ho1
        have HNW:=lh hnw
        have HNJ:=lh hNj
        clear hRD hbad hto hlt hE2 hE3 ht htl hdp hf1 ho1 hnw hE hNj hWd hNT hS hL hnw3 ht0 hRel hdb hw1 hw2
        go_wp2_with (first | (go_at_call 69;go_loud ((refine HRD.out.mono ?_;rintro e1 w1 ⟨av,cv,rfl,hs1,hy1⟩;have HS1:=lh hs1;have HY1:=lh hy1;clear hs1 hy1))) | (go_at_call 70;go_loud ((refine (HRS.out w1 av cv HS1.out HY1.out).mono ?_;rintro e3 w3 ⟨rfl,hs3,hy3,hn3,hk3⟩;have HK3:=lh hk3;have HS3:=lh hs3;have HY3:=lh hy3;have HN3:=lh hn3;have HS4:=lh (HLF.out w3 (.cells #[.int .i32 (tl:Int),.int .i32 (dp:Int)] 140) hs3);have hsz4:w.heap.size≤(w3.alloc (.cells #[.int .i32 (tl:Int),.int .i32 (dp:Int)] 140)).heap.size:=HS4.out.size;clear hs3 hy3 hn3 hk3))) | (at_builtin;go_loud ((refine wpList_pushR rfl _ _ 136 140 rfl iR _ 2 8 Tryz.underlying136 hiR hyR0 hyR1 hyR2 rfl (by decide) w.heap.size hsz4 (.slice ab j cb) j (rsV (T.map Fs.num)) rfl (HOW.out _ HS4.out) [.int .i32 (tl:Int),.int .i32 (dp:Int)] rfl (one_of rfl) (by rw [World.size_alloc];rfl) hbj2 hbj ?_;intro g5 cap5 w5 hown5 hgr5;have HP5:=lh (HPU.out _ w5 g5 cap5 HS4.out hown5 hgr5);have hq5:=HFAR.out w3 w5 _ HS3.out hgr5;have HQ5:=lh hq5;have q5:w5.cell? ⟨w3.heap.size,0,none⟩=some (.int .i32 (tl:Int)):=hq5.cell 0;have hn5:=RowT.kk (RowT.keep HN3.out (Go.Deep.blk_alloc_lt _ _ _ HN3.out.lt)) HP5.out.2.2.2.2 (by decide);have HN5:=lh hn5;have HY5:Hid (OwnY w5 w.heap.size (.slice av nw cv) d.2):=ownsRow_kk (World.ownsRow.alloc HY3.out _) HP5.out.2.2.2.2 (by decide);clear hown5 hgr5 hq5 hn5))))
        have hK35:KindK [135,115,118] w1 w5:=(HK3.out.trans (KindK.of_below ((Below.refl _ _).alloc (Nat.le_refl _) _))).trans HP5.out.2.2.2.2
        have hHD:∃nv vs c,RowT 135 w1 db #[nv,.int .i64 L,c]∧vs.length=N.length∧w1.ownsRow w.heap.size 115 3 nv N.length (ndV N vs)∧∀i (h:i<N.length) (h':i<vs.length),OwnY w1 w.heap.size vs[i] N[i].2:=by
         rcases HS1.out.dic with ⟨q,_⟩ | ⟨db',nv,q,_,hrow1,⟨vs,hl,ho1,hy1⟩,_⟩
         ·cases q
         ·obtain rfl:db=db':=by simpa using q
          exact ⟨nv,vs,_,hrow1,hl,ho1,hy1⟩
        obtain ⟨nv,vs,c,hrow1,hl,ho1,hy1⟩:=hHD
        have hnb:∀k,nv.ownBlock=some k→k<w1.heap.size:=fun k hk=>(own_kind ho1 k hk).2.1
        have hrow5:RowT 135 w5 db #[nv,.int .i64 L,c]:=hrow1.kk hK35 (by decide)
        have ho5:w5.ownsRow w.heap.size 115 3 nv N.length (ndV N vs):=ownsRow_kk ho1 hK35 (by decide)
        have hy5:∀i (h:i<N.length) (h':i<vs.length),OwnY w5 w.heap.size vs[i] N[i].2:=fun i h h'=>ownsRow_kk (hy1 i h h') hK35 (by decide)
        obtain ⟨an,cn,hnv,_⟩:=own_form ho5
        subst hnv
        have hsz5:w.heap.size≤w5.heap.size:=HP5.out.2.1.size
        have hlt13:w1.heap.size<w3.heap.size:=HN3.out.lt
        have hltn:=HN5.out.lt
        have hltr:=HQ5.out.lt
        have hltd:=hrow5.lt
        have hne1:w1.heap.size≠db:=by
         intro e
         have h1:=HN5.out
         rw [e] at h1
         have:=kind_inj h1 hrow5
         revert this
         decide
        have hne2:w3.heap.size≠db:=by
         intro e
         have h1:=HQ5.out
         rw [e] at h1
         have:=kind_inj h1 hrow5
         revert this
         decide
        have HPT:Hid (∀w6 g cap,w6.ownsRow w.heap.size 115 3 (.slice (some ⟨g,0,none⟩) (N.length+1) cap) (N.length+1) (ndV N vs++[.bool f1,.int .i64 o1,.slice av nw cv])→Grew w5 w6 (.slice an N.length cn) (.slice (some ⟨g,0,none⟩) (N.length+1) cap)→(w6.cell? ⟨db,0,none⟩=some (.slice an N.length cn)∧w6.frozen? ⟨db,0,none⟩=false∧(w6.setCell ⟨db,0,none⟩ (.slice (some ⟨g,0,none⟩) (N.length+1) cap)).cell? ⟨db,2,none⟩=some c∧(w6.setCell ⟨db,0,none⟩ (.slice (some ⟨g,0,none⟩) (N.length+1) cap)).frozen? ⟨db,2,none⟩=false) ∧
          RdS w ((w6.setCell ⟨db,0,none⟩ (.slice (some ⟨g,0,none⟩) (N.length+1) cap)).setCell ⟨db,2,none⟩ (.int .i64 (tl:Int))) b s2 L (N++[d]) (T++[t]) (.slice (some ⟨g5,0,none⟩) (j+1) cap5) (.pointer (some ⟨db,0,none⟩))):=fun w6 g cap h1 h2=>by
         rw [HF1.out,HO1.out] at h1
         rw [HTL.out]
         exact RdS.put HP5.out.1 HP5.out.2.1 HLT0.out HP5.out.2.2.1 hrow5 HDB.out hl ho5 hy5 HREL.out HY5.out (by rw [HNJ.out];exact HTO.out.1) HNW3.out HT0.out HTT.out h1 h2
        have d7:w5.cell? ⟨db,0,none⟩=some (.slice an N.length cn):=hrow5.cell 0
        have b0:w5.cell? ⟨w1.heap.size,0,none⟩=some (.bool f1):=HN5.out.cell 0
        have b1:w5.cell? ⟨w1.heap.size,1,none⟩=some (.int .i64 o1):=HN5.out.cell 1
        have b2:w5.cell? ⟨w1.heap.size,2,none⟩=some (.slice av nw cv):=HN5.out.cell 2
        have HSA:Hid (∀W:World,W.heap[w1.heap.size]?=w5.heap[w1.heap.size]?→W.heap[w3.heap.size]?=w5.heap[w3.heap.size]?→W.cell? ⟨w1.heap.size,0,none⟩=some (.bool f1)∧W.cell? ⟨w1.heap.size,1,none⟩=some (.int .i64 o1)∧W.cell? ⟨w1.heap.size,2,none⟩=some (.slice av nw cv)∧W.cell? ⟨w3.heap.size,0,none⟩=some (.int .i32 (tl:Int))):=fun W e1 e2=>by
         have r1:=RowT.keep HN5.out e1
         have r2:=RowT.keep HQ5.out e2
         exact ⟨r1.cell 0,r1.cell 1,r1.cell 2,r2.cell 0⟩
        have hq:=HSA.out ((w5.alloc (.cells #[.bool f1,.int .i64 o1,.slice av nw cv] 115)).drew) (Go.Deep.blk_alloc_lt _ _ _ hltn) (Go.Deep.blk_alloc_lt _ _ _ hltr)
        have g7:((w5.alloc (.cells #[.bool f1,.int .i64 o1,.slice av nw cv] 115)).drew).cell? ⟨db,0,none⟩=some (.slice an N.length cn):=(RowT.keep (w':=(w5.alloc (.cells #[.bool f1,.int .i64 o1,.slice av nw cv] 115)).drew) hrow5 (Go.Deep.blk_alloc_lt _ _ _ hltd)).cell 0
        have hBE:Hid (Below w5.heap.size w5 ((w5.alloc (.cells #[.bool f1,.int .i64 o1,.slice av nw cv] 115)).drew)):=((Below.refl _ _).alloc (Nat.le_refl _) _).drew
        have hnw:Hid (∀j u,[Value.bool f1,.int .i64 o1,.slice av nw cv][j]?=some u→((w5.alloc (.cells #[.bool f1,.int .i64 o1,.slice av nw cv] 115)).drew).cell? ((⟨w5.heap.size,0,none⟩:Addr).add j)=some u):=fun j u h=>new_cells w5 [Value.bool f1,.int .i64 o1,.slice av nw cv] 115 j u h
        have hwt:IntKind.i64.wrap (tl:Int)=(tl:Int):=IntWalk.i64_in _ (by omega)
        have HNB:=lh hnb
        have HO5:=lh ho5
        obtain ⟨iN,hiN,hyN0,hyN1,hyN2⟩:=info_parts Tryz.infoN
        have hbN:N.length+1≤140737488355328:=by rw [HNJ.out];omega
        have hbN2:(N.length+1)*40≤140737488355328:=by rw [HNJ.out];omega
        clear hK35 hrow1 hl ho1 hy1 hnb hrow5 ho5 hy5
        refine wp_region_held_drew (S:=fun wx=>wx.cell? ⟨w1.heap.size,0,none⟩=some (.bool f1)∧wx.cell? ⟨w1.heap.size,1,none⟩=some (.int .i64 o1)∧wx.cell? ⟨w1.heap.size,2,none⟩=some (.slice av nw cv)∧wx.cell? ⟨w3.heap.size,0,none⟩=some (.int .i32 (tl:Int))) (by kernel_rfl) ⟨b0,b1,b2,q5⟩ (fun hHeld=>?_)
        refine wpAnyH_take (i:=0) (fuel:=17) (oi:=⟨_,_,_,_,_,_⟩) (v:=?_) rfl (by kernel_rfl) (by kernel_rfl) (by kernel_rfl) (fun _ _ _ h=>h) (Or.inl ⟨by rfl,?_⟩) (by assumption) ?_
        rotate_left
        ·intro w _
         first | (go_simp;done) | (go_simp;with_reducible rfl)
        simp only [Act.put,List.setIfInBounds_toArray,List.set_cons_zero,List.set_cons_succ]
        refine wpAnyH_take (i:=1) (fuel:=16) (oi:=⟨_,_,_,_,_,_⟩) (v:=?_) rfl (by kernel_rfl) (by kernel_rfl) (by kernel_rfl) (fun _ _ _ h=>h) (Or.inl ⟨by rfl,?_⟩) (by assumption) ?_
        rotate_left
        ·intro w _
         first | (go_simp;done) | (go_simp;with_reducible rfl)
        simp only [Act.put,List.setIfInBounds_toArray,List.set_cons_zero,List.set_cons_succ]
        refine wpAnyH_take (i:=2) (fuel:=15) (oi:=⟨_,_,_,_,_,_⟩) (v:=?_) rfl (by kernel_rfl) (by kernel_rfl) (by kernel_rfl) (fun _ _ _ h=>h) (Or.inl ⟨by rfl,?_⟩) (by assumption) ?_
        rotate_left
        ·intro w _
         first | (go_simp;done) | (go_simp;with_reducible rfl)
        simp only [Act.put,List.setIfInBounds_toArray,List.set_cons_zero,List.set_cons_succ]
        refine wpAnyH_take (i:=3) (fuel:=14) (oi:=⟨_,_,_,_,_,_⟩) (v:=?_) rfl (by kernel_rfl) (by kernel_rfl) (by kernel_rfl) (fun _ _ _ h=>h) (Or.inl ⟨by rfl,?_⟩) (by assumption) ?_
        rotate_left
        ·intro w _
         first | (go_simp;done) | (go_simp;with_reducible rfl)
        simp only [Act.put,List.setIfInBounds_toArray,List.set_cons_zero,List.set_cons_succ]
        refine wpAnyH_take (i:=4) (fuel:=13) (oi:=⟨_,_,_,_,_,_⟩) (v:=?_) rfl (by kernel_rfl) (by kernel_rfl) (by kernel_rfl) (fun _ _ _ h=>h) (Or.inl ⟨by rfl,?_⟩) (by assumption) ?_
        rotate_left
        ·intro w _
         first | (go_simp;done) | (go_simp;with_reducible rfl)
        simp only [Act.put,List.setIfInBounds_toArray,List.set_cons_zero,List.set_cons_succ]
        refine wpAnyH_take (i:=6) (fuel:=12) (oi:=⟨_,_,_,_,_,_⟩) (v:=?_) rfl (by kernel_rfl) (by kernel_rfl) (by kernel_rfl) (fun _ _ _ h=>h) (Or.inl ⟨by rfl,?_⟩) (by assumption) ?_
        rotate_left
        ·intro w hSw
         obtain ⟨h1,h2,h3,_⟩:=hSw
         first | (go_simp;done) | (go_simp;with_reducible rfl)
        simp only [Act.put,List.setIfInBounds_toArray,List.set_cons_zero,List.set_cons_succ]
        refine wpAnyH_take (i:=9) (fuel:=11) (oi:=⟨_,_,_,_,_,_⟩) (v:=?_) rfl (by kernel_rfl) (by kernel_rfl) (by kernel_rfl) (fun _ _ _ h=>h) (Or.inl ⟨by rfl,?_⟩) (by assumption) ?_
        rotate_left
        ·intro w _
         first | (go_simp;done) | (go_simp;with_reducible rfl)
        simp only [Act.put,List.setIfInBounds_toArray,List.set_cons_zero,List.set_cons_succ]
        refine wpAnyH_take (i:=10) (fuel:=10) (oi:=⟨_,_,_,_,_,_⟩) (v:=?_) rfl (by kernel_rfl) (by kernel_rfl) (by kernel_rfl) (fun _ _ _ h=>h) (Or.inl ⟨by rfl,?_⟩) (by assumption) ?_
        rotate_left
        ·intro w hSw
         obtain ⟨_,_,_,h4⟩:=hSw
         first | (go_simp;done) | (go_simp;with_reducible rfl)
        simp only [Act.put,List.setIfInBounds_toArray,List.set_cons_zero,List.set_cons_succ]
        refine wpAnyH_take (i:=11) (fuel:=9) (oi:=⟨_,_,_,_,_,_⟩) (v:=?_) rfl (by kernel_rfl) (by kernel_rfl) (by kernel_rfl) (fun _ _ _ h=>h) (Or.inl ⟨by rfl,?_⟩) (by assumption) ?_
        rotate_left
        ·intro w _
         first | (go_simp;done) | (go_simp;with_reducible rfl)
        simp only [Act.put,List.setIfInBounds_toArray,List.set_cons_zero,List.set_cons_succ]
        refine wpAnyH_ready (rs:=[5,7]) (by kernel_rfl) (by simp) ?_
        refine AllReadyH.cons (o:=⟨_,_,_,_,_,_⟩) rfl (fun K hK=>?_) ?_
        ·go_simp
         refine hK.out _ _ ⟨b0,b1,b2,q5⟩ (fun hHeld=>?_)
         clear hK K
         refine wpAnyH_ready (rs:=[7]) (by kernel_rfl) (by simp) ?_
         refine AllReadyH.cons (o:=⟨_,_,_,_,_,_⟩) rfl (fun K hK=>?_) AllReadyH.nil
         go_simp
         refine hK.out _ _ hq (fun hHeld=>?_)
         clear hK K
         refine wpAnyH_ready (rs:=[8]) (by kernel_rfl) (by simp) ?_
         refine AllReadyH.cons (o:=⟨_,_,_,_,_,_⟩) rfl (fun K hK=>?_) AllReadyH.nil
         refine step_pushR (w:=w5) (by rfl) _ _ 133 115 (by rfl) iN _ 3 40 Tryz.underlying133 hiN hyN0 hyN1 hyN2 rfl (by decide) w.heap.size hsz5 (.slice an N.length cn) N.length (ndV N vs) (by rfl) HO5.out hBE.out [.bool f1,.int .i64 o1,.slice av nw cv] rfl (one_of rfl) ⟨w5.heap.size,0,none⟩ hnw.out (by rfl) hbN2 hbN ?_
         intro g6 cap6 w6 hown6 hgr6
         obtain ⟨⟨m0,m1,m2,m3⟩,hr6⟩:=HPT.out w6 g6 cap6 hown6 hgr6
         have HR6:=lh hr6
         have e1:w6.heap[w1.heap.size]?=w5.heap[w1.heap.size]?:=hgr6.far hltn (fun q=>by have:=HNB.out _ q;omega)
         have e2:w6.heap[w3.heap.size]?=w5.heap[w3.heap.size]?:=hgr6.far hltr (fun q=>by have:=HNB.out _ q;omega)
         have k0:=HSA.out w6 e1 e2
         have e3:(w6.setCell ⟨db,0,none⟩ (.slice (some ⟨g6,0,none⟩) (N.length+1) cap6)).heap[w1.heap.size]?=w5.heap[w1.heap.size]?:=(heap_other _ _ _ _ _ hne1).trans e1
         have e4:(w6.setCell ⟨db,0,none⟩ (.slice (some ⟨g6,0,none⟩) (N.length+1) cap6)).heap[w3.heap.size]?=w5.heap[w3.heap.size]?:=(heap_other _ _ _ _ _ hne2).trans e2
         have k1:=HSA.out _ e3 e4
         have k2:=HSA.out ((w6.setCell ⟨db,0,none⟩ (.slice (some ⟨g6,0,none⟩) (N.length+1) cap6)).setCell ⟨db,2,none⟩ (.int .i64 (tl:Int))) ((heap_other _ _ _ _ _ hne1).trans e3) ((heap_other _ _ _ _ _ hne2).trans e4)
         clear hown6 hgr6 hr6 e1 e2 e3 e4
         refine hK.out _ _ k0 (fun hHeld=>?_)
         clear hK K
         simp only [Act.put,List.setIfInBounds_toArray,List.set_cons_zero,List.set_cons_succ]
         refine wpAnyH_take (i:=12) (fuel:=5) (oi:=⟨_,_,_,_,_,_⟩) (v:=?_) rfl (by kernel_rfl) (by kernel_rfl) (by kernel_rfl) (fun _ _ _ h=>h) (Or.inl ⟨by rfl,?_⟩) (by assumption) ?_
         rotate_left
         ·intro w _
          first | (go_simp;done) | (go_simp;with_reducible rfl)
         simp only [Act.put,List.setIfInBounds_toArray,List.set_cons_zero,List.set_cons_succ]
         refine wpAnyH_take (i:=13) (fuel:=4) (oi:=⟨_,_,_,_,_,_⟩) (v:=?_) rfl (by kernel_rfl) (by kernel_rfl) (by kernel_rfl) (fun _ _ _ h=>h) (Or.inl ⟨by rfl,?_⟩) (by assumption) ?_
         rotate_left
         ·intro w _
          first | (go_simp;done) | (go_simp;with_reducible rfl)
         simp only [Act.put,List.setIfInBounds_toArray,List.set_cons_zero,List.set_cons_succ]
         refine wpAnyH_ready (rs:=[14]) (by kernel_rfl) (by simp) ?_
         refine AllReadyH.cons (o:=⟨_,_,_,_,_,_⟩) rfl (fun K hK=>?_) AllReadyH.nil
         go_simp
         refine hK.out _ _ k1 (fun hHeld=>?_)
         clear hK K
         refine wpAnyH_take (i:=15) (fuel:=2) (oi:=⟨_,_,_,_,_,_⟩) (v:=?_) rfl (by kernel_rfl) (by kernel_rfl) (by kernel_rfl) (fun _ _ _ h=>h) (Or.inl ⟨by rfl,?_⟩) (by assumption) ?_
         rotate_left
         ·intro w _
          first | (go_simp;done) | (go_simp;with_reducible rfl)
         simp only [Act.put,List.setIfInBounds_toArray,List.set_cons_zero,List.set_cons_succ]
         refine wpAnyH_take (i:=16) (fuel:=1) (oi:=⟨_,_,_,_,_,_⟩) (v:=?_) rfl (by kernel_rfl) (by kernel_rfl) (by kernel_rfl) (fun _ _ _ h=>h) (Or.inl ⟨by rfl,?_⟩) (by assumption) ?_
         rotate_left
         ·intro w _
          first | (go_simp;done) | (go_simp;with_reducible rfl)
         simp only [Act.put,List.setIfInBounds_toArray,List.set_cons_zero,List.set_cons_succ]
         refine wpAnyH_ready (rs:=[17]) (by kernel_rfl) (by simp) ?_
         refine AllReadyH.cons (o:=⟨_,_,_,_,_,_⟩) rfl (fun K hK=>?_) AllReadyH.nil
         go_simp
         refine hK.out _ _ k2 (fun hHeld=>?_)
         clear hK K
         refine wpAnyH_done (by kernel_rfl) ?_ _
         clear k0 k1 k2 m0 m1 m2 m3 d7 g7 hq b0 b1 b2 q5
         go_wp2_with fail
         go_roundg (n-(j+1))
         case rel=>exact ⟨j+1,s2,N++[d],T++[t],_,_,by omega,rfl,rfl,rfl,by go_num,HNT4,HW4,HE4,HL4,HR6⟩
         case measure=>omega
        refine AllReadyH.cons (o:=⟨_,_,_,_,_,_⟩) rfl (fun K hK=>?_) AllReadyH.nil
        go_simp
        refine hK.out _ _ hq (fun hHeld=>?_)
        clear hK K
        refine wpAnyH_ready (rs:=[5]) (by kernel_rfl) (by simp) ?_
        refine AllReadyH.cons (o:=⟨_,_,_,_,_,_⟩) rfl (fun K hK=>?_) AllReadyH.nil
        go_simp
        refine hK.out _ _ hq (fun hHeld=>?_)
        clear hK K
        refine wpAnyH_ready (rs:=[8]) (by kernel_rfl) (by simp) ?_
        refine AllReadyH.cons (o:=⟨_,_,_,_,_,_⟩) rfl (fun K hK=>?_) AllReadyH.nil
        refine step_pushR (w:=w5) (by rfl) _ _ 133 115 (by rfl) iN _ 3 40 Tryz.underlying133 hiN hyN0 hyN1 hyN2 rfl (by decide) w.heap.size hsz5 (.slice an N.length cn) N.length (ndV N vs) (by rfl) HO5.out hBE.out [.bool f1,.int .i64 o1,.slice av nw cv] rfl (one_of rfl) ⟨w5.heap.size,0,none⟩ hnw.out (by rfl) hbN2 hbN ?_
        intro g6 cap6 w6 hown6 hgr6
        obtain ⟨⟨m0,m1,m2,m3⟩,hr6⟩:=HPT.out w6 g6 cap6 hown6 hgr6
        have HR6:=lh hr6
        have e1:w6.heap[w1.heap.size]?=w5.heap[w1.heap.size]?:=hgr6.far hltn (fun q=>by have:=HNB.out _ q;omega)
        have e2:w6.heap[w3.heap.size]?=w5.heap[w3.heap.size]?:=hgr6.far hltr (fun q=>by have:=HNB.out _ q;omega)
        have k0:=HSA.out w6 e1 e2
        have e3:(w6.setCell ⟨db,0,none⟩ (.slice (some ⟨g6,0,none⟩) (N.length+1) cap6)).heap[w1.heap.size]?=w5.heap[w1.heap.size]?:=(heap_other _ _ _ _ _ hne1).trans e1
        have e4:(w6.setCell ⟨db,0,none⟩ (.slice (some ⟨g6,0,none⟩) (N.length+1) cap6)).heap[w3.heap.size]?=w5.heap[w3.heap.size]?:=(heap_other _ _ _ _ _ hne2).trans e2
        have k1:=HSA.out _ e3 e4
        have k2:=HSA.out ((w6.setCell ⟨db,0,none⟩ (.slice (some ⟨g6,0,none⟩) (N.length+1) cap6)).setCell ⟨db,2,none⟩ (.int .i64 (tl:Int))) ((heap_other _ _ _ _ _ hne1).trans e3) ((heap_other _ _ _ _ _ hne2).trans e4)
        clear hown6 hgr6 hr6 e1 e2 e3 e4
        refine hK.out _ _ k0 (fun hHeld=>?_)
        clear hK K
        simp only [Act.put,List.setIfInBounds_toArray,List.set_cons_zero,List.set_cons_succ]
        refine wpAnyH_take (i:=12) (fuel:=5) (oi:=⟨_,_,_,_,_,_⟩) (v:=?_) rfl (by kernel_rfl) (by kernel_rfl) (by kernel_rfl) (fun _ _ _ h=>h) (Or.inl ⟨by rfl,?_⟩) (by assumption) ?_
        rotate_left
        ·intro w _
         first | (go_simp;done) | (go_simp;with_reducible rfl)
        simp only [Act.put,List.setIfInBounds_toArray,List.set_cons_zero,List.set_cons_succ]
        refine wpAnyH_take (i:=13) (fuel:=4) (oi:=⟨_,_,_,_,_,_⟩) (v:=?_) rfl (by kernel_rfl) (by kernel_rfl) (by kernel_rfl) (fun _ _ _ h=>h) (Or.inl ⟨by rfl,?_⟩) (by assumption) ?_
        rotate_left
        ·intro w _
         first | (go_simp;done) | (go_simp;with_reducible rfl)
        simp only [Act.put,List.setIfInBounds_toArray,List.set_cons_zero,List.set_cons_succ]
        refine wpAnyH_ready (rs:=[14]) (by kernel_rfl) (by simp) ?_
        refine AllReadyH.cons (o:=⟨_,_,_,_,_,_⟩) rfl (fun K hK=>?_) AllReadyH.nil
        go_simp
        refine hK.out _ _ k1 (fun hHeld=>?_)
        clear hK K
        refine wpAnyH_take (i:=15) (fuel:=2) (oi:=⟨_,_,_,_,_,_⟩) (v:=?_) rfl (by kernel_rfl) (by kernel_rfl) (by kernel_rfl) (fun _ _ _ h=>h) (Or.inl ⟨by rfl,?_⟩) (by assumption) ?_
        rotate_left
        ·intro w _
         first | (go_simp;done) | (go_simp;with_reducible rfl)
        simp only [Act.put,List.setIfInBounds_toArray,List.set_cons_zero,List.set_cons_succ]
        refine wpAnyH_take (i:=16) (fuel:=1) (oi:=⟨_,_,_,_,_,_⟩) (v:=?_) rfl (by kernel_rfl) (by kernel_rfl) (by kernel_rfl) (fun _ _ _ h=>h) (Or.inl ⟨by rfl,?_⟩) (by assumption) ?_
        rotate_left
        ·intro w _
         first | (go_simp;done) | (go_simp;with_reducible rfl)
        simp only [Act.put,List.setIfInBounds_toArray,List.set_cons_zero,List.set_cons_succ]
        refine wpAnyH_ready (rs:=[17]) (by kernel_rfl) (by simp) ?_
        refine AllReadyH.cons (o:=⟨_,_,_,_,_,_⟩) rfl (fun K hK=>?_) AllReadyH.nil
        go_simp
        refine hK.out _ _ k2 (fun hHeld=>?_)
        clear hK K
        refine wpAnyH_done (by kernel_rfl) ?_ _
        clear k0 k1 k2 m0 m1 m2 m3 d7 g7 hq b0 b1 b2 q5
        go_wp2_with fail
        go_roundg (n-(j+1))
        case rel=>exact ⟨j+1,s2,N++[d],T++[t],_,_,by omega,rfl,rfl,rfl,by go_num,HNT4,HW4,HE4,HL4,HR6⟩
        case measure=>omega
   ·have hE2:R.1=(Fs.rdN j s').1:=by
     have hE:=hE.out
     rw [show n-j=(n-(j+1))+1 by omega,Fs.rdNs_bad (by rw [hNj];exact hbad),hNj] at hE
     rw [←hE]
    unfold RdPost at hRD
    have HRD:Hid (Calls Tryz.prog 69 #[.pointer (some ⟨b,0,none⟩),.int .i64 (j:Int)] wr fun e w'=>e=.returned (.tuple #[.agg #[.bool false,.int .i64 0,.slice none 0 0],.int .i64 R.1])∧KeptF (fun k=>k=b) w w'):=by
     refine hRD.mono ?_
     rintro e w' ⟨hk,⟨_,he⟩ | ⟨h0,_⟩⟩
     ·rw [hE2]
      exact ⟨he,hS.out.kept.trans hk⟩
     ·exact absurd h0 hbad
    have hR1:¬R.1=0:=by rw [hE2];exact hbad
    have HR1:=lh hR1
    obtain ⟨E,hEE⟩:∃E,E=R.1:=⟨_,rfl⟩
    have HEE:=lh hEE
    rw [←hEE] at HRD hR1
    clear hRD hbad hE hE2 hEE hNj hWd hNT hS hL
    go_wp2_with (go_at_call 69;go_loud ((refine HRD.out.mono ?_;rintro e1 w1 ⟨rfl,hk1⟩;have HK1:=lh hk1;clear hk1)))
    try rw [Exit.noGoto_ret]
    go_ret2
    exact ⟨HK1.out.trans (KeptF.of_below ((Below.refl _ _).alloc (Nat.le_refl _) _)),.inl ⟨HR1.out,by first | rfl | (rw [HEE.out];rfl)⟩⟩
  ·obtain rfl:j=n:=by omega
   have hE2:=hE.out
   rw [Nat.sub_self] at hE2
   have hE3:(0,(N,T),s')=R:=hE2
   have i1:¬(j:Int)<(j:Int):=by omega
   have hdic:=hS.out.dic
   have HS:=lh hS.out
   have HE3:=lh hE3
   clear hS hE hE2 hE3 hNT hWd hL
   go_wp2_with fail
   try rw [Exit.noGoto_ret]
   go_ret2
   rw [←HE3.out]
   exact ⟨HS.out.kept,.inr ⟨rfl,_,rfl,HS.out.cur,hdic⟩⟩
end F12
namespace F12
open Go.RowKit Go.Maps
theorem addW_le (m:Int) (l:List Fs.En):∀e∈Fs.addW m l,e.2≤9223372036854775807:=fun e he=>by
 unfold Fs.addW at he
 obtain ⟨x,_,rfl⟩:=List.mem_map.1 he
 show wrap64 _≤_
 unfold wrap64
 omega
theorem writes_any (s:List UInt8) (w:World) (db:Nat) (N:List Fs.Nd) (T:List (List Fs.En)) (least:Int) (terms:Nat) (h:DicS w db N least terms) (hR:Fs.Rel N T) (ht:terms≤65536) (hl:-9223372036854775808≤least∧least≤9223372036854775807):
  Calls Tryz.prog 45 #[.pointer (some ⟨db,0,none⟩),.string (bs s)] w fun e w'=>e=.returned (.bool (decide (Fs.right (Fs.addW least (T.getLast?.getD []))=0∧Fs.bytes (Fs.addW least (T.getLast?.getD []))=s)))∧Below w.heap.size w w':=by
 have HA:=lh (all_any w db N T least terms h hR ht hl)
 clear h hR
 have hle:=addW_le least (T.getLast?.getD [])
 unfold AllPostE at HA
 generalize Fs.addW least (T.getLast?.getD [])=L at *
 have HBU:Hid (∀w1 v,OwnE w1 w.heap.size v L→Calls Tryz.prog 20 #[v] w1 (BuildPost w1 L)):=fun w1 v h1=>build_any w1 v L h1.ens hle
 unfold BuildPost at HBU
 have HFM:Hid (∀w1 v,OwnE w1 w.heap.size v L→∃a cap,v=.slice a L.length cap):=fun w1 v h1=>h1.form
 obtain ⟨R,hRR⟩:∃R,R=decide (Fs.right L=0∧Fs.bytes L=s):=⟨_,rfl⟩
 have hcm:((bs (Fs.built L)).toList==(bs s).toList)=(Fs.built L==s):=by rw [bs_list,bs_list]
 rw [←hRR]
 by_cases h0:Fs.right L=0
 ·have hb:Fs.built L=Fs.bytes L:=by unfold Fs.built;exact if_pos h0
  have hcm2:((bs (Fs.built L)).toList==(bs s).toList)=R:=by
   rw [hcm,hRR,hb,Bool.eq_iff_iff]
   simp [h0]
  rw [h0] at HBU
  clear hcm hb hRR hle h0 hl ht
  generalize bs (Fs.built L)=S1 at *
  generalize bs s=S2 at *
  go_enter Tryz.func45,Tryz.ntmps45
  go_wp2_with (first | (go_at_call 71;go_loud ((refine HA.out.mono ?_;rintro e1 w1 ⟨v1,rfl,ho1,hb1⟩;obtain ⟨a1,c1,rfl⟩:=HFM.out w1 v1 ho1;have HO1:=lh ho1;have HB1:=lh hb1;clear ho1 hb1))) | (go_at_call 20;go_loud ((refine (HBU.out _ _ HO1.out).mono ?_;rintro e2 w2 ⟨rfl,hb2⟩;have HB2:=lh (HB1.out.trans (hb2.mono HB1.out.size));clear hb2))))
  go_ret
  exact ⟨by first | rfl | (rw [←hcm2];rfl) | (rw [←hcm2]),HB2.out⟩
 ·obtain rfl:R=false:=by rw [hRR];exact decide_eq_false fun q=>h0 q.1
  clear hcm hRR hle hl ht
  generalize Fs.right L=E at *
  generalize bs (Fs.built L)=S1 at *
  generalize bs s=S2 at *
  go_enter Tryz.func45,Tryz.ntmps45
  go_wp2_with (first | (go_at_call 71;go_loud ((refine HA.out.mono ?_;rintro e1 w1 ⟨v1,rfl,ho1,hb1⟩;obtain ⟨a1,c1,rfl⟩:=HFM.out w1 v1 ho1;have HO1:=lh ho1;have HB1:=lh hb1;clear ho1 hb1))) | (go_at_call 20;go_loud ((refine (HBU.out _ _ HO1.out).mono ?_;rintro e2 w2 ⟨rfl,hb2⟩;have HB2:=lh (HB1.out.trans (hb2.mono HB1.out.size));clear hb2))))
  go_ret
  exact ⟨rfl,HB2.out⟩
theorem node_nil (i:Int) (w:World):Calls Tryz.prog 81 #[.pointer none,.int .i64 i] w fun e w'=>e=.returned (.tuple #[.agg #[.bool false,.int .i64 0,.slice none 0 0],.bool false])∧Below w.heap.size w w':=by
 go_enter Tryz.func81,Tryz.ntmps81
 go_wp2_with fail
 refine bodyPost_ret (results_cell_tmp rfl _ _ ⟨w.heap.size,0,none⟩ (.agg #[.bool false,.int .i64 0,.slice none 0 0]) rfl (loadN' _ _ _ _ _ (Go.Deep.blk_alloc_new _ _))) rfl ?_
 exact ⟨rfl,(Below.refl _ _).alloc (Nat.le_refl _) _⟩
end F12
namespace F12
open Go.RowKit Go.Maps
theorem wys_one (l:List (UInt8 × Int × Nat)):∀u∈wyV l,u.oneCell'=true:=by
 intro u hu
 obtain ⟨x,_,hx⟩:=List.mem_flatMap.1 hu
 simp only [List.mem_cons,List.not_mem_nil,or_false] at hx
 rcases hx with rfl | rfl | rfl <;> rfl
theorem ways_news {w:World} {g:Nat} {l:List (UInt8 × Int × Nat)} (hcell:∀j (_:j<l.length),w.cell? ⟨g,j*3,none⟩=some (.int .i64 (l[j].1.toNat:Nat))∧w.cell? ⟨g,j*3+1,none⟩=some (.int .i64 l[j].2.1)∧w.cell? ⟨g,j*3+2,none⟩=some (.int .i64 (l[j].2.2:Nat))):
  ∀j u,(wyV l)[j]?=some u→w.cell? ((⟨g,0,none⟩:Addr).add j)=some u:=by
 intro j u h
 have hj:j<(wyV l).length:=(List.getElem?_eq_some_iff.1 h).1
 rw [wyV_length] at hj
 have hk:j/3<l.length:=by omega
 obtain ⟨a1,a2,a3⟩:=wyV_at l (j/3) hk
 obtain ⟨b1,b2,b3⟩:=hcell (j/3) hk
 rw [Addr.add_lit,Nat.zero_add]
 have hm:j%3=0∨j%3=1∨j%3=2:=by omega
 rcases hm with hm | hm | hm
 ·rw [show j=j/3*3 by omega,a1] at h
  rw [←h,←b1]
  congr 2
  omega
 ·rw [show j=j/3*3+1 by omega,a2] at h
  rw [←h,←b2]
  congr 2
  omega
 ·rw [show j=j/3*3+2 by omega,a3] at h
  rw [←h,←b3]
  congr 2
  omega
theorem cloneY_any (w:World) (v:Value) (l:List (UInt8 × Int × Nat)) (h:WayS w v l) (hl:l.length*24≤140737488355328):
  Calls Tryz.prog 105 #[v] w fun e w'=>∃v',e=.returned v'∧OwnY w' w.heap.size v' l∧Below w.heap.size w w':=by
 obtain ⟨a,cap,rfl,_,hcp,hc⟩:=h
 have q:=fun (w:World) (a:Option Addr) (n c n' c':Nat)=>Lib.run_eql_slice_nil (P:=Tryz.prog) w 113 118 a n c n' c' Tryz.underlying113
 cases a with
 | none=>
  have h0:l=[]:=by
   rcases Nat.eq_zero_or_pos l.length with h0 | h0
   ·exact List.length_eq_zero_iff.1 h0
   ·obtain ⟨g,hh,_⟩:=hc h0
    cases hh
  subst h0
  go_enter Tryz.func105,Tryz.ntmps105
  go_wp2_with fail
  go_ret
  exact ⟨_,rfl,World.ownsRow_nil _ _ _ _,Below.refl _ _⟩
 | some ad=>
  have hnews:∀j u,(wyV l)[j]?=some u→w.cell? (ad.add j)=some u:=by
   rcases Nat.eq_zero_or_pos l.length with h0 | h0
   ·obtain rfl:l=[]:=List.length_eq_zero_iff.1 h0
    intro j u hu
    simp [wyV] at hu
   ·obtain ⟨g,hh,_,hcell⟩:=hc h0
    cases hh
    exact ways_news hcell
  have HNW:=lh hnews
  clear hnews hc
  obtain ⟨ii,hi,hz0,hz1,hz2⟩:=info_parts Tryz.infoW
  obtain ⟨n,hn⟩:∃n,n=l.length:=⟨_,rfl⟩
  have HN:=lh hn
  rw [←hn] at hl ⊢
  clear hn
  go_enter Tryz.func105,Tryz.ntmps105
  go_wp2_with (at_builtin;refine wpList_append_own _ rfl _ _ 113 rfl w.heap.size 118 ii _ 3 24 Tryz.underlying113 hi hz0 hz1 hz2 rfl (by decide) _ _ _ rfl (World.ownsRow_made w #[] 0 (Nat.le_refl _) (Nat.zero_le _) rfl) ad n cap (wyV l) rfl (by rw [wyV_length,HN.out]) (fun j u hu=>Lib.cell?_alloc_some _ (HNW.out j u hu)) (wys_one l) (by unfold maxLen;omega) (by omega) (by simp) ?_;intro v' w1 hown hgrow hnil;have HOW:=lh hown;have HGR:=lh hgrow;clear hown hgrow hnil)
  go_wp2_with fail
  go_ret
  refine ⟨v',rfl,?_,((Below.refl _ w).alloc (Nat.le_refl _) _).grown HGR.out (by simp) (by intro k hk;have hk2:some w.heap.size=some k:=hk;injection hk2 with hk2;omega)⟩
  unfold OwnY
  rw [←HN.out]
  simpa using HOW.out
end F12
namespace F12
open Go.RowKit Go.Maps
theorem node_out (w:World) (db:Nat) (N:List Fs.Nd) (least:Int) (terms:Nat) (h:DicS w db N least terms) (i:Int) (hi:i<0∨(N.length:Int)≤i):
  Calls Tryz.prog 81 #[.pointer (some ⟨db,0,none⟩),.int .i64 i] w fun e w'=>e=.returned (.tuple #[.agg #[.bool false,.int .i64 0,.slice none 0 0],.bool false])∧Below w.heap.size w w':=by
 obtain ⟨nv,hrow,an,cn,hnv,hcn,hcn2,-⟩:=h
 subst hnv
 have hdb:=hrow.lt
 have c0:w.cell? ⟨db,0,none⟩=some (.slice an N.length cn):=hrow.cell 0
 have c1:(w.alloc (.cells #[.bool false,.int .i64 0,.slice none 0 0] 115)).cell? ⟨db,0,none⟩=some (.slice an N.length cn):=(((Below.refl w.heap.size w).alloc (Nat.le_refl _) _).cell (p:=⟨db,0,none⟩) hdb).trans c0
 clear hrow hdb
 generalize N.length=n at *
 rcases hi with hi | hi
 ·go_enter Tryz.func81,Tryz.ntmps81
  go_wp2_with fail
  refine bodyPost_ret (results_cell_tmp rfl _ _ ⟨w.heap.size,0,none⟩ (.agg #[.bool false,.int .i64 0,.slice none 0 0]) rfl (loadN' _ _ _ _ _ (Go.Deep.blk_alloc_new _ _))) rfl ?_
  exact ⟨rfl,(Below.refl _ _).alloc (Nat.le_refl _) _⟩
 ·have h0:¬i<0:=by omega
  go_enter Tryz.func81,Tryz.ntmps81
  go_wp2_with fail
  refine bodyPost_ret (results_cell_tmp rfl _ _ ⟨w.heap.size,0,none⟩ (.agg #[.bool false,.int .i64 0,.slice none 0 0]) rfl (loadN' _ _ _ _ _ (Go.Deep.blk_alloc_new _ _))) rfl ?_
  exact ⟨rfl,(Below.refl _ _).alloc (Nat.le_refl _) _⟩
theorem node_at (w:World) (db:Nat) (N:List Fs.Nd) (least:Int) (terms:Nat) (h:DicS w db N least terms) (i:Nat) (hi:i<N.length) (hb:N[i].2.length≤1048576):
  Calls Tryz.prog 81 #[.pointer (some ⟨db,0,none⟩),.int .i64 (i:Int)] w fun e w'=>∃v,e=.returned (.tuple #[.agg #[.bool N[i].1.isSome,.int .i64 (N[i].1.getD 0),v],.bool true])∧OwnY w' w.heap.size v N[i].2∧Below w.heap.size w w':=by
 obtain ⟨nv,hrow,an,cn,hnv,hcn,hcn2,hnc⟩:=h
 subst hnv
 obtain ⟨gn,rfl,hgn,hcell⟩:=hnc (by omega)
 obtain ⟨wv,hws,n0,n1,n2⟩:=hcell i hi
 have hdb:=hrow.lt
 have c0:w.cell? ⟨db,0,none⟩=some (.slice (some ⟨gn,0,none⟩) N.length cn):=hrow.cell 0
 have hb1:Below w.heap.size w (w.alloc (.cells #[.bool false,.int .i64 0,.slice none 0 0] 115)):=(Below.refl w.heap.size w).alloc (Nat.le_refl _) _
 have c1:(w.alloc (.cells #[.bool false,.int .i64 0,.slice none 0 0] 115)).cell? ⟨db,0,none⟩=some (.slice (some ⟨gn,0,none⟩) N.length cn):=(hb1.cell (p:=⟨db,0,none⟩) hdb).trans c0
 have m0:=(hb1.cell (p:=⟨gn,i*3,none⟩) hgn).trans n0
 have m1:=(hb1.cell (p:=⟨gn,i*3+1,none⟩) hgn).trans n1
 have m2:=(hb1.cell (p:=⟨gn,i*3+2,none⟩) hgn).trans n2
 obtain ⟨nd,hnd⟩:∃nd,nd=N[i]:=⟨_,rfl⟩
 rw [←hnd] at hws n0 n1 m0 m1 hb ⊢
 clear hcell hnc hrow hnd
 generalize N.length=n at *
 obtain ⟨fin,ws⟩:=nd
 dsimp only at hws n0 n1 m0 m1 hb ⊢
 have i1:(i:Int)<(n:Int):=by omega
 have i2:¬(n:Int)≤(i:Int):=by omega
 have i3:¬(i:Int)<0:=by omega
 have s1:(w.alloc (.cells #[.bool false,.int .i64 0,.slice none 0 0] 115)).heap.size=w.heap.size+1:=World.size_alloc _ _
 have HCL:Hid (Calls Tryz.prog 105 #[wv] ((w.alloc (.cells #[.bool false,.int .i64 0,.slice none 0 0] 115)).alloc (.cells #[.bool fin.isSome,.int .i64 (fin.getD 0),wv] 115)) fun e w'=>∃a cap,e=.returned (.slice a ws.length cap)∧RowT 115 w' w.heap.size #[.bool false,.int .i64 0,.slice none 0 0]∧RowT 115 w' (w.heap.size+1) #[.bool fin.isSome,.int .i64 (fin.getD 0),wv]∧OwnY w' (w.heap.size+1+1) (.slice a ws.length cap) ws∧Below w.heap.size w w'):=by
  have hb2:=hb1.alloc (by omega) (.cells #[.bool fin.isSome,.int .i64 (fin.getD 0),wv] 115)
  refine (cloneY_any _ wv ws (hws.below hb2 (Nat.le_refl _)) (by omega)).mono ?_
  rintro e w' ⟨v',rfl,hown,hbb⟩
  have s2:((w.alloc (.cells #[.bool false,.int .i64 0,.slice none 0 0] 115)).alloc (.cells #[.bool fin.isSome,.int .i64 (fin.getD 0),wv] 115)).heap.size=w.heap.size+1+1:=by rw [World.size_alloc,s1]
  rw [s2] at hown hbb
  obtain ⟨a,cap,rfl,_,_⟩:=own_form hown
  refine ⟨a,cap,rfl,?_,?_,hown,hb2.trans (hbb.mono (by omega))⟩
  ·show _=_
   rw [hbb.block _ (by omega),Go.Deep.blk_alloc_lt _ _ _ (by omega)]
   exact Go.Deep.blk_alloc_new _ _
  ·show _=_
   rw [hbb.block _ (by omega),←s1]
   exact Go.Deep.blk_alloc_new _ _
 obtain ⟨aw,cw,rfl,-,-,-⟩:=hws
 clear hdb hb1 hb hgn s1
 go_enter Tryz.func81,Tryz.ntmps81
 go_wp2_with (go_at_call 105;go_loud ((refine HCL.out.mono ?_;rintro e1 w1 ⟨a1,cap1,rfl,hr0,hr1,ho1,hb1⟩;have d0:=hr1.frozen 2;have d1:w1.cell? ⟨w.heap.size+1,2,none⟩=some (.slice aw ws.length cw):=hr1.cell 2;have q1:RowT 115 (w1.setCell ⟨w.heap.size+1,2,none⟩ (.slice a1 ws.length cap1)) (w.heap.size+1) #[.bool fin.isSome,.int .i64 (fin.getD 0),.slice a1 ws.length cap1]:=hr1.set 2 _;have e0:=q1.cell 0;have e1:=q1.cell 1;have e2:=q1.cell 2;have q0:=hr0.keep (heap_other w1 (w.heap.size+1) 2 w.heap.size (.slice a1 ws.length cap1) (by omega));have qb:=hb1.setCell (p:=⟨w.heap.size+1,2,none⟩) (by show w.heap.size≤w.heap.size+1;omega) (.slice a1 ws.length cap1);obtain ⟨g0,g1,g2,g3,g4,g5,HQ⟩:=resOf (w:=w) (b:=w.heap.size) (x0:=.bool fin.isSome) (x1:=.int .i64 (fin.getD 0)) (x2:=.slice a1 ws.length cap1) q0 ⟨qb.os,qb.tape,qb.output,qb.size,fun k hk _=>qb.block k hk⟩;have HQB:=lh qb;have HO1:=lh ho1;clear hr0 hr1 ho1 hb1 q0 q1 qb)))
 refine bodyPost_ret (results_cell_tmp rfl _ _ ⟨w.heap.size,0,none⟩ (.agg #[.bool fin.isSome,.int .i64 (fin.getD 0),.slice a1 ws.length cap1]) rfl (loadN' _ _ _ _ _ HQ.out.1)) rfl ?_
 refine ⟨_,rfl,ownsRow_base (B:=w.heap.size+1+1) (ownsRow_keep HO1.out fun k hk=>?_) (by omega),((HQB.out.setCell (by exact Nat.le_refl _) _).setCell (by exact Nat.le_refl _) _).setCell (by exact Nat.le_refl _) _⟩
 have hk2:=(own_kind HO1.out k hk).1
 rw [heap_other _ _ _ _ _ (by omega),heap_other _ _ _ _ _ (by omega),heap_other _ _ _ _ _ (by omega),heap_other _ _ _ _ _ (by omega)]
end F12
namespace F12
open Go.RowKit Go.Maps
theorem read_any (s:List UInt8) (b:Nat) (w:World) (hc:CurT w b s) (hs:s.length≤4194304):
  Calls Tryz.prog 43 #[.pointer (some ⟨b,0,none⟩)] w (ReadPost w b (Fs.rdAll s) (Fs.cN (Fs.past s))):=by
 unfold Fs.rdAll
 by_cases he:Fs.cE s=0
 ·rw [if_neg (fun q=>q he)]
  by_cases he2:Fs.cE (Fs.past s)=0
  ·rw [if_neg (fun q=>q he2)]
   exact read_good s b w hc hs he he2
  ·rw [if_pos he2]
   refine (read_bad2 s b w hc hs he he2).mono ?_
   rintro e w' ⟨rfl,hk⟩
   exact ⟨hk,.inl ⟨he2,rfl⟩⟩
 ·rw [if_pos he]
  refine (read_bad1 s b w hc hs he).mono ?_
  rintro e w' ⟨rfl,hk⟩
  exact ⟨hk,.inl ⟨he,rfl⟩⟩
theorem atC_any (s:ByteArray) (w:World):Calls Tryz.prog 42 #[.string s] w fun e w'=>e=.returned (.pointer (some ⟨w.heap.size,0,none⟩))∧w'=w.alloc (.cells #[.string s] 130):=by
 go_enter Tryz.func42,Tryz.ntmps42
 go_wp2_with fail
 go_ret
 exact ⟨rfl,rfl⟩
def OpenPost (w:World) (s:List UInt8) (e:Ending) (w':World):Prop:=
 Below w.heap.size w w'∧((Fs.openE s≠0∧e=.returned (.tuple #[.pointer none,.int .i64 (Fs.openE s)])) ∨
  (Fs.openE s=0∧∃db,e=.returned (.tuple #[.pointer (some ⟨db,0,none⟩),.int .i64 0])∧w.heap.size≤db∧DicS w' db (Fs.rdAll s).2.1.1 (Fs.cN (Fs.past s)) ((Fs.rdAll s).2.1.2.getLast?.getD []).length∧Fs.Rel (Fs.rdAll s).2.1.1 (Fs.rdAll s).2.1.2))
theorem open_any (s:List UInt8) (w:World) (hs:s.length≤4194304):Calls Tryz.prog 21 #[.string (bs s)] w (OpenPost w s):=by
 have hcur:CurT (w.alloc (.cells #[.string (bs s)] 130)) w.heap.size s:=Go.Deep.blk_alloc_new _ _
 have hat:=atC_any (bs s) w
 have hrd:=read_any s w.heap.size _ hcur hs
 have hbel:∀w',KeptF (fun k=>k=w.heap.size) (w.alloc (.cells #[.string (bs s)] 130)) w'→Below w.heap.size w w':=fun w' k=>KeptF.below ((Below.refl _ _).alloc (Nat.le_refl _) _) k (fun k h=>by omega) (by simp)
 have hsz:(w.alloc (.cells #[.string (bs s)] 130)).heap.size=w.heap.size+1:=World.size_alloc _ _
 have hlb:=cN_bd (Fs.past s)
 have hwr:=fun (w2:World) (db:Nat) (N:List Fs.Nd) (T:List (List Fs.En)) (h:DicS w2 db N (Fs.cN (Fs.past s)) (T.getLast?.getD []).length) (hR:Fs.Rel N T) (ht:(T.getLast?.getD []).length≤65536)=>writes_any s w2 db N T (Fs.cN (Fs.past s)) (T.getLast?.getD []).length h hR ht (by omega)
 obtain ⟨R,hR⟩:∃R,R=Fs.rdAll s:=⟨_,rfl⟩
 have hoE:Fs.openE s=if R.1≠0 then R.1 else if R.2.2≠[] then 5 else if Fs.right (Fs.addW (Fs.cN (Fs.past s)) (R.2.1.2.getLast?.getD []))=0∧Fs.bytes (Fs.addW (Fs.cN (Fs.past s)) (R.2.1.2.getLast?.getD []))=s then 0 else 3:=by rw [hR];rfl
 have hful:(Fs.right (Fs.addW (Fs.cN (Fs.past s)) (R.2.1.2.getLast?.getD []))=0∧Fs.bytes (Fs.addW (Fs.cN (Fs.past s)) (R.2.1.2.getLast?.getD []))=s)→∀k∈R.2.1.2,k≠[]:=fun h=>by
  rw [hR] at h ⊢
  exact (Fs.open_full h).2.2.2
 rw [←hR] at hrd
 unfold OpenPost
 rw [←hR]
 unfold ReadPost at hrd
 obtain ⟨E,⟨N,T⟩,r⟩:=R
 dsimp only at hrd hoE hful ⊢
 clear hR
 generalize Fs.cN (Fs.past s)=L at *
 generalize Fs.openE s=OE at *
 generalize w.alloc (.cells #[.string (bs s)] 130)=W1 at *
 have HAT:=lh hat
 by_cases h1:E=0
 ·subst h1
  rw [if_neg (fun q=>q rfl)] at hoE
  have hend:=fun (w2:World) (h:CurT w2 w.heap.size r)=>end_c r w.heap.size w2 h
  by_cases h2:r=[]
  ·subst h2
   rw [if_neg (fun q=>q rfl)] at hoE
   by_cases h3:∃t∈T,t=[]
   ·rw [if_neg (fun h=>by obtain ⟨t,h4,h5⟩:=h3;exact hful h t h4 h5)] at hoE
    subst hoE
    have HRD:Hid (Calls Tryz.prog 43 #[.pointer (some ⟨w.heap.size,0,none⟩)] W1 fun e w'=>e=.returned (.tuple #[.pointer none,.int .i64 0])∧CurT w' w.heap.size []∧Below w.heap.size w w'):=by
     refine hrd.mono ?_
     rintro e w' ⟨hk,⟨h0,_⟩ | ⟨_,dv,rfl,hc,hd⟩⟩
     ·exact absurd rfl h0
     ·rcases hd with ⟨rfl,_⟩ | ⟨_,_,_,_,_,_,hRl⟩
      ·exact ⟨rfl,hc,hbel _ hk⟩
      ·obtain ⟨t,h4,h5⟩:=h3
       exact absurd h5 (hRl.full t h4)
    have HEND:Hid (∀w2,CurT w2 w.heap.size []→Calls Tryz.prog 44 #[.pointer (some ⟨w.heap.size,0,none⟩)] w2 fun e' w'=>e'=.returned (.int .i64 0)∧w'=w2):=fun w2 h=>hend w2 h
    clear hrd hend hwr hful h3 hat hcur hbel hlb
    generalize bs s=S at *
    go_enter Tryz.func21,Tryz.ntmps21
    go_wp2_with (first | (go_at_call 42;refine HAT.out.mono ?_;rintro e0 w0 ⟨rfl,rfl⟩) | (go_at_call 43;refine HRD.out.mono ?_;rintro e1 w1 ⟨rfl,hc1,hb1⟩;have HC1:=lh hc1;have HB1:=lh hb1;clear hc1 hb1) | (go_at_call 44;refine (HEND.out _ HC1.out).mono ?_;rintro e2 w2 ⟨rfl,rfl⟩))
    go_ret2
    exact ⟨HB1.out,.inl ⟨by decide,rfl⟩⟩
   ·have hne:∀t∈T,t≠[]:=fun t h4 h5=>h3 ⟨t,h4,h5⟩
    have HRD:Hid (Calls Tryz.prog 43 #[.pointer (some ⟨w.heap.size,0,none⟩)] W1 fun e w'=>∃db,e=.returned (.tuple #[.pointer (some ⟨db,0,none⟩),.int .i64 0])∧CurT w' w.heap.size []∧Below w.heap.size w w'∧w.heap.size≤db∧DicS w' db N L (T.getLast?.getD []).length∧Fs.Rel N T):=by
     refine hrd.mono ?_
     rintro e w' ⟨hk,⟨h0,_⟩ | ⟨_,dv,rfl,hc,hd⟩⟩
     ·exact absurd rfl h0
     ·rcases hd with ⟨_,t,h4,h5⟩ | ⟨db,nv,rfl,hdb,hrow,hn,hRl⟩
      ·exact absurd h5 (hne t h4)
      ·exact ⟨db,rfl,hc,hbel _ hk,by omega,⟨nv,hrow,hn.nods⟩,hRl⟩
    have HEND:Hid (∀w2,CurT w2 w.heap.size []→Calls Tryz.prog 44 #[.pointer (some ⟨w.heap.size,0,none⟩)] w2 fun e' w'=>e'=.returned (.int .i64 0)∧w'=w2):=fun w2 h=>hend w2 h
    have HWR:Hid (∀w2 db,DicS w2 db N L (T.getLast?.getD []).length→Fs.Rel N T→Calls Tryz.prog 45 #[.pointer (some ⟨db,0,none⟩),.string (bs s)] w2 fun e w'=>e=.returned (.bool (decide (Fs.right (Fs.addW L (T.getLast?.getD []))=0∧Fs.bytes (Fs.addW L (T.getLast?.getD []))=s)))∧Below w2.heap.size w2 w'):=fun w2 db h hRl=>by
     refine hwr w2 db N T h hRl ?_
     cases hT:T.getLast? with
     | none=>exact Nat.zero_le _
     | some t=>exact (hRl.size t (List.mem_of_getLast? hT)).1
    generalize (T.getLast?.getD []).length=tl at *
    by_cases h4:Fs.right (Fs.addW L (T.getLast?.getD []))=0∧Fs.bytes (Fs.addW L (T.getLast?.getD []))=s
    ·rw [if_pos h4] at hoE
     subst hoE
     rw [decide_eq_true h4] at HWR
     clear hrd hend hwr hful h3 hat hcur hbel hlb h4 hne
     generalize bs s=S at *
     go_enter Tryz.func21,Tryz.ntmps21
     go_wp2_with (first | (go_at_call 42;refine HAT.out.mono ?_;rintro e0 w0 ⟨rfl,rfl⟩) | (go_at_call 43;refine HRD.out.mono ?_;rintro e1 w1 ⟨db,rfl,hc1,hb1,hdb,hd1,hr1⟩;have HC1:=lh hc1;have HB1:=lh hb1;have HDB:=lh hdb;have HD1:=lh hd1;have HR1:=lh hr1;clear hc1 hb1 hdb hd1 hr1) | (go_at_call 44;refine (HEND.out _ HC1.out).mono ?_;rintro e2 w2 ⟨rfl,rfl⟩) | (go_at_call 45;refine (HWR.out _ db HD1.out HR1.out).mono ?_;rintro e3 w3 ⟨rfl,hb3⟩;have HB3:=lh hb3;clear hb3))
     go_ret2
     exact ⟨HB1.out.trans (HB3.out.mono HB1.out.size),.inr ⟨by first | trivial | rfl,db,rfl,HDB.out,HD1.out.below HB3.out,HR1.out⟩⟩
    ·rw [if_neg h4] at hoE
     subst hoE
     rw [decide_eq_false h4] at HWR
     clear hrd hend hwr hful h3 hat hcur hbel hlb h4 hne
     generalize bs s=S at *
     go_enter Tryz.func21,Tryz.ntmps21
     go_wp2_with (first | (go_at_call 42;refine HAT.out.mono ?_;rintro e0 w0 ⟨rfl,rfl⟩) | (go_at_call 43;refine HRD.out.mono ?_;rintro e1 w1 ⟨db,rfl,hc1,hb1,hdb,hd1,hr1⟩;have HC1:=lh hc1;have HB1:=lh hb1;have HDB:=lh hdb;have HD1:=lh hd1;have HR1:=lh hr1;clear hc1 hb1 hdb hd1 hr1) | (go_at_call 44;refine (HEND.out _ HC1.out).mono ?_;rintro e2 w2 ⟨rfl,rfl⟩) | (go_at_call 45;refine (HWR.out _ db HD1.out HR1.out).mono ?_;rintro e3 w3 ⟨rfl,hb3⟩;have HB3:=lh hb3;clear hb3))
     go_ret2
     exact ⟨HB1.out.trans (HB3.out.mono HB1.out.size),.inl ⟨by decide,rfl⟩⟩
  ·rw [if_pos h2] at hoE
   subst hoE
   have HRD:Hid (Calls Tryz.prog 43 #[.pointer (some ⟨w.heap.size,0,none⟩)] W1 fun e w'=>∃dv,e=.returned (.tuple #[dv,.int .i64 0])∧CurT w' w.heap.size r∧Below w.heap.size w w'):=by
    refine hrd.mono ?_
    rintro e w' ⟨hk,⟨h0,_⟩ | ⟨_,dv,rfl,hc,hd⟩⟩
    ·exact absurd rfl h0
    ·exact ⟨dv,rfl,hc,hbel _ hk⟩
   have HEND:Hid (∀w2,CurT w2 w.heap.size r→Calls Tryz.prog 44 #[.pointer (some ⟨w.heap.size,0,none⟩)] w2 fun e' w'=>e'=.returned (.int .i64 5)∧w'=w2):=fun w2 h=>by
    have:=hend w2 h
    rw [if_pos h2] at this
    exact this
   clear hrd hend hwr hful hat hcur hbel hlb h2
   generalize bs s=S at *
   go_enter Tryz.func21,Tryz.ntmps21
   go_wp2_with (first | (go_at_call 42;refine HAT.out.mono ?_;rintro e0 w0 ⟨rfl,rfl⟩) | (go_at_call 43;refine HRD.out.mono ?_;rintro e1 w1 ⟨dv,rfl,hc1,hb1⟩;have HC1:=lh hc1;have HB1:=lh hb1;clear hc1 hb1) | (go_at_call 44;refine (HEND.out _ HC1.out).mono ?_;rintro e2 w2 ⟨rfl,rfl⟩))
   go_ret2
   exact ⟨HB1.out,.inl ⟨by decide,rfl⟩⟩
 ·rw [if_pos h1] at hoE
  subst hoE
  have HRD:Hid (Calls Tryz.prog 43 #[.pointer (some ⟨w.heap.size,0,none⟩)] W1 fun e w'=>e=.returned (.tuple #[.pointer none,.int .i64 OE])∧Below w.heap.size w w'):=by
   refine hrd.mono ?_
   rintro e w' ⟨hk,⟨_,rfl⟩ | ⟨h0,_⟩⟩
   ·exact ⟨rfl,hbel _ hk⟩
   ·exact absurd h0 h1
  clear hrd hwr hful hat hcur hbel hlb
  generalize bs s=S at *
  go_enter Tryz.func21,Tryz.ntmps21
  go_wp2_with (first | (go_at_call 42;refine HAT.out.mono ?_;rintro e0 w0 ⟨rfl,rfl⟩) | (go_at_call 43;refine HRD.out.mono ?_;rintro e1 w1 ⟨rfl,hb1⟩;have HB1:=lh hb1;clear hb1))
  go_ret2
  exact ⟨HB1.out,.inl ⟨h1,rfl⟩⟩
end F12
namespace F12.Fs
open Go.RowKit
theorem last_length (l:List En):((nodes l).getLast?.getD []).length=l.length:=by
 by_cases hl:l=[]
 ·subst hl;rfl
 ·obtain ⟨K,hK⟩:=nodes_last hl
  rw [hK,List.getLast?_append]
  show (low l).length=l.length
  unfold low
  rw [List.length_map]
end F12.Fs
namespace F12
open Go.RowKit Go.Maps
structure Dc (w:World) (db:Nat) (l:List Fs.En):Prop where
 dic:DicS w db ((Fs.nodes l).map (Fs.node (Fs.nodes l))) (Fs.least l) l.length
 rel:Fs.Rel ((Fs.nodes l).map (Fs.node (Fs.nodes l))) (Fs.nodes l)
theorem Dc.below {w w':World} {db:Nat} {l:List Fs.En} (h:Dc w db l) (hb:Below w.heap.size w w'):Dc w' db l:=⟨h.dic.below hb,h.rel⟩
theorem root_dc (l:List Fs.En) (w:World) (db:Nat) (h:Dc w db l):Calls Tryz.prog 49 #[.pointer (some ⟨db,0,none⟩)] w fun e w'=>e=.returned (.tuple #[.int .i64 (((Fs.nodes l).length:Int)-1),.int .i64 (Fs.least l)])∧Below w.heap.size w w':=by
 have:=root_any w db _ _ _ h.dic
 rw [List.length_map] at this
 refine this.mono ?_
 rintro e w' ⟨rfl,hd⟩
 exact ⟨rfl,hd.below⟩
end F12
namespace F12
open Go.RowKit Go.Maps
theorem ent_news {w:World} {g o:Nat} {l:List Fs.En} (h:EnC w g o l):∀j u,(entV l)[j]?=some u→w.cell? ((⟨g,o,none⟩:Addr).add j)=some u:=by
 intro j u hu
 have hj:j<(entV l).length:=(List.getElem?_eq_some_iff.1 hu).1
 rw [entV_length] at hj
 have hk:j/2<l.length:=by omega
 obtain ⟨b1,b2⟩:=h (j/2) hk
 have a1:=entV_s l (j/2) hk
 have a2:=entV_n l (j/2) hk
 have hadd:(⟨g,o,none⟩:Addr).add j=⟨g,o+j,none⟩:=by unfold Addr.add;split <;> simp_all
 rw [hadd]
 have hm:j%2=0∨j%2=1:=by omega
 rcases hm with hm | hm
 ·rw [show j=j/2*2 by omega,a1] at hu
  rw [←hu,←b1]
  congr 2
  omega
 ·rw [show j=j/2*2+1 by omega,a2] at hu
  rw [←hu,←b2]
  congr 2
  omega
def EnX (w:World) (v:Value) (l:List Fs.En):Prop:=v=.slice none 0 0∧l=[]∨∃x cap,v=.slice (some x) l.length cap∧∀j u,(entV l)[j]?=some u→w.cell? (x.add j)=some u∧(x.add j).block<w.heap.size
end F12
namespace F12.frame
open Go.Proofs.YtmdefnbpimfbgaaGreatDoor.frame
open Go.ChangeShapes Go.WideShapes Go.ChangeAt Go.RowKit
open Go.ChangeMaps (open_string shut_string)
theorem part_le {H:Type} {l:List (DataW H)} {x:DataW H} (h:x∈l):Rows.uptoBulk x≤Rows.uptoBulkAll l:=by
 induction l with
 | nil=>cases h
 | cons y t ih=>
  simp only [Rows.uptoBulkAll]
  rcases List.mem_cons.1 h with rfl | h
  ·omega
  ·have:=ih h;omega
theorem parts_le {H:Type} (l:List (DataW H)):Rows.uptoBulkAll l+1≤Rows.uptoBulk (.agg l):=by
 simp only [Rows.uptoBulk]
 omega
section
variable {H:Type} {enc:TypeId × Value→H} {W:World}
theorem spot_of {x:Addr} {v:Value} (h:W.cell? (x.add 0)=some v):∃b o,x=⟨b,o,none⟩∧b<W.heap.size∧∀j,x.add j=⟨b,o+j,none⟩:=by
 obtain ⟨b,off,spot⟩:=x
 have hspot:spot=none:=by
  have h1:=World.cell?_spot h
  simpa [Addr.add] using h1
 subst hspot
 have hadd:∀j,(⟨b,off,none⟩:Addr).add j=⟨b,off+j,none⟩:=fun j=>by
  unfold Addr.add
  split <;> simp_all
 rw [hadd] at h
 exact ⟨b,off,rfl,World.block_lt_of_cell? W _ h,hadd⟩
theorem ents_of {a:Option Addr} {len cap:Nat} {d:DataW H} {p:List MemPlace} (h:DataW.Trod enc Tryz.prog W 0 (fun _=>true) true 22 (.slice a len cap) d p):
  ∃l:List Fs.En,EnS W (.slice a len cap) l∧EnX W (.slice a len cap) l∧(∀e∈l,e.2≤9223372036854775807)∧∀e∈l,e.1.length≤Rows.uptoBulk d:=by
 obtain ⟨fuel,hf⟩:=h
 have ce:Tryz.prog.cellsOf 29=2:=by kernel_rfl
 have c3:Tryz.prog.cellsOf 3=1:=by kernel_rfl
 have c9:Tryz.prog.cellsOf 9=1:=by kernel_rfl
 rcases Go.Deep.open_slice_pairs Tryz.underlying22 Tryz.underlying29 ce rfl rfl c9 c3 hf with ⟨hcs,hx⟩ | ⟨x,l,c,m,n,V0,V1,D0,D1,P0,P1,hcs,_,hl,hm,hmm,hx,hall⟩
 ·simp [Value.cells] at hcs
  obtain ⟨rfl,rfl,rfl⟩:=hcs
  exact ⟨[],⟨none,0,rfl,Nat.le_refl _,by omega,fun h=>by simp at h⟩,.inl ⟨rfl,rfl⟩,fun e q=>absurd q List.not_mem_nil,fun e q=>absurd q List.not_mem_nil⟩
 ·simp [Value.cells] at hcs
  obtain ⟨rfl,rfl,rfl⟩:=hcs
  simp only [if_true] at hmm
  subst hmm
  have hd:d=.slice ((List.range len).map fun i=>.agg [D0 i,D1 i]) ((List.range (m-len)).map fun j=>.agg [D0 (len+j),D1 (len+j)]):=congrArg Prod.fst hx
  have each:∀i,i<len→∃q:Fs.En,(W.cell? (x.add (i*2))=some (.string (bs q.1))∧W.cell? (x.add (i*2+1))=some (.int .i64 q.2))∧q.2≤9223372036854775807∧q.1.length≤Rows.uptoBulk d:=by
   intro i hi
   obtain ⟨h0,h1,t0,t1⟩:=hall i (by omega)
   obtain ⟨s,f0,x0,_⟩:=DataW.trod_string Tryz.underlying9 t0
   obtain ⟨z,f1,x1,wf⟩:=DataW.trod_int Tryz.underlying3 t1
   injection f0 with f0 _
   injection f1 with f1 _
   rw [f0] at h0
   rw [f1] at h1
   refine ⟨(s.data.toList,z),⟨by rw [bs_of];exact h0,h1⟩,?_,?_⟩
   ·have hw:IntKind.i64.min≤z∧z≤IntKind.i64.max:=by simpa [Lit.wf] using wf
    exact hw.2
   ·have hD:D0 i=.lit (.string s.data.toList):=congrArg Prod.fst x0
    have hmem:(DataW.agg [D0 i,D1 i])∈(List.range len).map fun i=>DataW.agg [D0 i,D1 i]:=List.mem_map.2 ⟨i,List.mem_range.2 hi,rfl⟩
    have q1:=part_le hmem
    have q2:=slice_elems ((List.range len).map fun i=>DataW.agg [D0 i,D1 i]) ((List.range (m-len)).map fun j=>DataW.agg [D0 (len+j),D1 (len+j)])
    have q3:=parts_le [D0 i,D1 i]
    have q4:Rows.uptoBulk (D0 i)≤Rows.uptoBulkAll [D0 i,D1 i]:=part_le (List.mem_cons_self ..)
    rw [hD,string_bulk] at q4
    rw [hD] at q3
    have q5:s.data.toList.length=s.size:=Array.length_toList
    rw [hd]
    rw [hD] at q1
    show s.data.toList.length≤_
    omega
  obtain ⟨q,hq⟩:=Go.Deep.choose_lt (p:=fun i (q:Fs.En)=>(W.cell? (x.add (i*2))=some (.string (bs q.1))∧W.cell? (x.add (i*2+1))=some (.int .i64 q.2))∧q.2≤9223372036854775807∧q.1.length≤Rows.uptoBulk d) each
  have hlq:((List.range len).map q).length=len:=by simp
  have hmem:∀e∈(List.range len).map q,∃i,i<len∧e=q i:=fun e he=>by
   obtain ⟨i,hi,rfl⟩:=List.mem_map.1 he
   exact ⟨i,List.mem_range.1 hi,rfl⟩
  have hsp:0<len→∃b o,x=⟨b,o,none⟩∧b<W.heap.size∧∀j,x.add j=⟨b,o+j,none⟩:=fun h0=>spot_of (by simpa using (hq 0 h0).1.1)
  have hen:EnS W (.slice (some x) len m) ((List.range len).map q):=by
   refine ⟨some x,m,by rw [hlq],by rw [hlq];exact hl,by unfold maxLen at hm;omega,fun h0=>?_⟩
   rw [hlq] at h0
   obtain ⟨b,o,rfl,hb,hadd⟩:=hsp h0
   refine ⟨b,o,rfl,hb,fun i hi=>?_⟩
   have hi':i<len:=by rw [hlq] at hi;exact hi
   obtain ⟨⟨t0,t1⟩,_⟩:=hq i hi'
   rw [hadd] at t0 t1
   rw [List.getElem_map,List.getElem_range]
   exact ⟨t0,t1⟩
  refine ⟨(List.range len).map q,hen,.inr ⟨x,m,by rw [hlq],fun j u hj=>?_⟩,fun e he=>?_,fun e he=>?_⟩
  ·have hj2:j<(entV ((List.range len).map q)).length:=(List.getElem?_eq_some_iff.1 hj).1
   rw [entV_length,hlq] at hj2
   obtain ⟨b,o,rfl,hb,hadd⟩:=hsp (by omega)
   obtain ⟨a',c',e1,_,_,e4⟩:=hen
   obtain ⟨g,o',e5,e6,e7⟩:=e4 (by rw [hlq];omega)
   rw [e5] at e1
   injection e1 with e8 _ _
   injection e8 with e8
   injection e8 with e9 e10 _
   subst e9 e10
   exact ⟨ent_news e7 j u hj,by rw [hadd];exact hb⟩
  ·obtain ⟨i,hi,rfl⟩:=hmem e he
   exact (hq i hi).2.1
  ·obtain ⟨i,hi,rfl⟩:=hmem e he
   exact (hq i hi).2.2
end
end F12.frame
namespace F12.Wk
open Fs Go.RowKit
def ok (stp:Int→UInt8→Int) (fin:Int→Bool):Int→List UInt8→Bool
 | q,[]=>fin q
 | q,c :: t=>if stp q c = -1 then false else ok stp fin (stp q c) t
def sel (stp:Int→UInt8→Int) (fin:Int→Bool) (q:Int) (b:List UInt8) (out:Int) (K:List En):List En:=off b out (K.filter fun e=>ok stp fin q e.1)
def feed {σ:Type} (y:σ→En→σ × Bool):σ→List En→σ × Bool
 | s,[]=>(s,true)
 | s,e :: l=>if (y s e).2=true then feed y (y s e).1 l else ((y s e).1,false)
section
variable {stp:Int→UInt8→Int} {fin:Int→Bool} {σ:Type} {y:σ→En→σ × Bool}
theorem off_append2 (b:List UInt8) (out:Int) (l k:List En):off b out (l++k)=off b out l++off b out k:=by unfold off;rw [List.map_append]
theorem sel_append (q:Int) (b:List UInt8) (out:Int) (K L:List En):sel stp fin q b out (K++L)=sel stp fin q b out K++sel stp fin q b out L:=by
 unfold sel
 rw [List.filter_append,off_append2]
theorem sel_up (q:Int) (b:List UInt8) (out:Int) (c:UInt8) (m:Int) (K:List En):sel stp fin q b out (upW c m K)=if stp q c = -1 then [] else sel stp fin (stp q c) (b++[c]) (wrap64 (out+m)) K:=by
 unfold sel
 by_cases h:stp q c = -1
 ·rw [if_pos h]
  have:(upW c m K).filter (fun e=>ok stp fin q e.1)=[]:=by
   rw [List.filter_eq_nil_iff]
   intro e he
   unfold upW at he
   obtain ⟨x,_,rfl⟩:=List.mem_map.1 he
   simp [ok,h]
  rw [this]
  rfl
 ·rw [if_neg h,←off_up]
  congr 1
  unfold upW
  rw [List.filter_map]
  congr 1
  refine List.filter_congr fun e _=>?_
  show (if stp q c = -1 then false else ok stp fin (stp q c) e.1)=_
  rw [if_neg h]
theorem sel_some (q:Int) (b:List UInt8) (out v:Int):sel stp fin q b out (ofEnd (some v))=if fin q=true then [(b,wrap64 (out+v))] else []:=by
 unfold sel
 by_cases h:fin q=true
 ·rw [if_pos h]
  have:(ofEnd (some v)).filter (fun e=>ok stp fin q e.1)=ofEnd (some v):=by
   show List.filter _ [([],v)]=[([],v)]
   rw [List.filter_cons_of_pos (by exact h)]
   rfl
  rw [this,off_end]
 ·rw [if_neg h]
  have:(ofEnd (some v)).filter (fun e=>ok stp fin q e.1)=[]:=by
   show List.filter _ [([],v)]=[]
   rw [List.filter_cons_of_neg (by exact h)]
   rfl
  rw [this]
  rfl
theorem feed_append (s:σ) (l k:List En):feed y s (l++k)=if (feed y s l).2=true then feed y (feed y s l).1 k else feed y s l:=by
 induction l generalizing s with
 | nil=>rfl
 | cons e l ih=>
  show (if (y s e).2=true then feed y (y s e).1 (l++k) else _)=_
  by_cases h:(y s e).2=true
  ·rw [if_pos h,ih,show feed y s (e :: l)=feed y (y s e).1 l by show (if _ then _ else _)=_;rw [if_pos h]]
  ·rw [if_neg h,show feed y s (e :: l)=((y s e).1,false) by show (if _ then _ else _)=_;rw [if_neg h]]
   rfl
theorem feed_one (s:σ) (e:En):feed y s [e]=y s e:=by
 show (if (y s e).2=true then ((y s e).1,true) else ((y s e).1,false))=_
 obtain ⟨a,c⟩:=y s e
 cases c <;> rfl
theorem sel_length (q:Int) (b:List UInt8) (out:Int) (K:List En):(sel stp fin q b out K).length≤K.length:=by
 unfold sel off
 rw [List.length_map]
 exact List.length_filter_le _ _
theorem feed_cnt (cnt:σ→Nat) (hc:∀s e,cnt (y s e).1≤cnt s+1):∀(l:List En) (s:σ),cnt (feed y s l).1≤cnt s+l.length
 | [],s=>Nat.le_refl _
 | e :: l,s=>by
  show cnt (if (y s e).2=true then feed y (y s e).1 l else ((y s e).1,false)).1≤cnt s+(l.length+1)
  have h:=hc s e
  split
  ·have:=feed_cnt cnt hc l (y s e).1
   omega
  ·show cnt (y s e).1≤_
   omega
theorem sel_root (q out:Int) (K:List En):sel stp fin q [] out K=(addW out K).filter fun e=>ok stp fin q e.1:=by
 unfold sel off addW
 rw [List.filter_map]
 rfl
end
def stpF (s:List UInt8) (q:Int) (c:UInt8):Int:=
 if q=(s.length:Int) then (s.length:Int)
 else match s[q.toNat]? with
 | some d=>if d.toNat<c.toNat then (s.length:Int) else if c=d then q+1 else -1
 | none=>-1
def finF (s:List UInt8) (q:Int):Bool:=decide (q=(s.length:Int))
def okF (s:List UInt8) (q:Int):Prop:=0≤q∧q≤(s.length:Int)
theorem stpF_end (s:List UInt8) (c:UInt8):stpF s (s.length:Int) c=(s.length:Int):=by unfold stpF;rw [if_pos rfl]
theorem stpF_at {s:List UInt8} {k:Nat} (h:k<s.length) (c:UInt8):stpF s (k:Int) c=if s[k].toNat<c.toNat then (s.length:Int) else if c=s[k] then (k:Int)+1 else -1:=by
 unfold stpF
 rw [if_neg (by omega),Int.toNat_natCast,List.getElem?_eq_getElem h]
theorem stpF_ok {s:List UInt8} {q:Int} (c:UInt8) (h:okF s q):stpF s q c = -1∨okF s (stpF s q c):=by
 obtain ⟨k,rfl⟩:∃k:Nat,(k:Int)=q:=⟨q.toNat,Int.toNat_of_nonneg h.1⟩
 have h2:k≤s.length:=by have:=h.2;omega
 unfold okF
 by_cases e:k=s.length
 ·subst e
  rw [stpF_end]
  right
  omega
 ·rw [stpF_at (by omega)]
  split
  ·right;omega
  ·split
   ·right;omega
   ·left;rfl
theorem lt_empty (t:List UInt8):lt t []=false:=by cases t <;> rfl
theorem okF_end (s:List UInt8):∀t:List UInt8,ok (stpF s) (finF s) (s.length:Int) t=true
 | []=>by show decide _=true;simp
 | c :: t=>by
  show (if stpF s (s.length:Int) c = -1 then false else ok (stpF s) (finF s) (stpF s (s.length:Int) c) t)=true
  rw [stpF_end,if_neg (by omega)]
  exact okF_end s t
theorem okF_lt (s:List UInt8):∀(t:List UInt8) (k:Nat),k≤s.length→ok (stpF s) (finF s) (k:Int) t = !lt t (s.drop k)
 | t,k,hk=>by
  by_cases e:k=s.length
  ·subst e
   rw [okF_end,List.drop_length,lt_empty]
   rfl
  ·have hlt:k<s.length:=by omega
   rw [List.drop_eq_getElem_cons hlt]
   cases t with
   | nil=>
    show decide ((k:Int)=(s.length:Int)) = !true
    rw [decide_eq_false (by omega)]
    rfl
   | cons c t=>
    show (if stpF s (k:Int) c = -1 then false else ok (stpF s) (finF s) (stpF s (k:Int) c) t) = !(decide (c.toNat<s[k].toNat)||(decide (c=s[k])&&lt t (s.drop (k+1))))
    rw [stpF_at hlt]
    by_cases h1:s[k].toNat<c.toNat
    ·rw [if_pos h1,if_neg (by omega),okF_end,decide_eq_false (by omega:¬c.toNat<s[k].toNat),decide_eq_false (by rintro h;rw [h] at h1;omega)]
     rfl
    ·rw [if_neg h1]
     by_cases h2:c=s[k]
     ·rw [if_pos h2,if_neg (by omega),show (k:Int)+1=((k+1:Nat):Int) by omega,okF_lt s t (k+1) hlt,decide_eq_true h2,decide_eq_false (by rw [h2];omega:¬c.toNat<s[k].toNat)]
      rfl
     ·have h3:c.toNat<s[k].toNat:=by
       have:c.toNat≠s[k].toNat:=fun q=>h2 (UInt8.toNat_inj.1 q)
       omega
      rw [if_neg h2,if_pos rfl,decide_eq_true h3]
      rfl
theorem sel_from (s:List UInt8) (l:List En):l.filter (fun e=>ok (stpF s) (finF s) 0 e.1)=l.filter fun e=>!lt e.1 s:=List.filter_congr fun e _=>by
 have:=okF_lt s e.1 0 (Nat.zero_le _)
 rw [List.drop_zero] at this
 exact this
end F12.Wk
namespace F12
open Go.RowKit Go.Maps
namespace Wk
abbrev TW:List TypeId:=[115,118,56,9,35]
abbrev TJ:List TypeId:=[29,22,4,3]
abbrev TI:List TypeId:=[9,35]
end Wk
structure KeptV (bv:Value) (B:Nat) (w w':World):Prop where
 kept:KeptT Wk.TW B w w'
 bytes:∀(k:Nat) (c:Array Value) (fz:Nat × Nat),w.heap[k]?=some (Obj.cells c 5 fz)→bv.ownBlock≠some k→w'.heap[k]?=w.heap[k]?
theorem KeptV.of_below {bv:Value} {B:Nat} {w w':World} (h:Below w.heap.size w w'):KeptV bv B w w':=⟨KeptT.of_below h,fun k _ _ hc _=>h.block k (Array.getElem?_eq_some_iff.1 hc).1⟩
theorem KeptV.trans {bv:Value} {B:Nat} {w w' w'':World} (h:KeptV bv B w w') (k:KeptV bv B w' w''):KeptV bv B w w'':=
 ⟨h.kept.trans k.kept,fun i c fz hc hb=>by
  have e:=h.bytes i c fz hc hb
  exact (k.bytes i c fz (e.trans hc) hb).trans e⟩
theorem KeptV.grew {w w':World} {B n:Nat} {bv bv':Value} {xs:List Value} (hg:Grew w w' bv bv') (ho:w.ownsRow B 5 1 bv n xs):KeptV bv B w w':=
 ⟨hg.keptT ho (by decide),fun k _ _ hc hb=>hg.far (Array.getElem?_eq_some_iff.1 hc).1 hb⟩
theorem KeptV.of_kt {bv:Value} {B:Nat} {w w':World} (h:KeptT (5 :: Wk.TW) B w w'):KeptV bv B w w':=⟨h.less (by decide),fun k c fz hc _=>h.kind k c _ fz hc (by decide)⟩
structure Mach (P:Program) (w0:World) (fs ff fy:FuncId) (Cs Cf Cy:Array Value) (stp:Int→UInt8→Int) (fin:Int→Bool) {σ:Type} (y:σ→Fs.En→σ × Bool) (cnt:σ→Nat) (ok:Int→Prop) (I:World→Prop) (J:World→σ→Prop):Prop where
 es:∀args w,(callFunc fs args).run P w=.ok (.enter fs args) w
 ef:∀args w,(callFunc ff args).run P w=.ok (.enter ff args) w
 ey:∀args w,(callFunc fy args).run P w=.ok (.enter fy args) w
 ikeep:∀W W',I W→KeptT Wk.TI w0.heap.size W W'→I W'
 jkeep:∀W W' s,J W s→KeptT Wk.TJ w0.heap.size W W'→J W' s
 less:∀s e,cnt (y s e).1≤cnt s+1
 next:∀q c,ok q→stp q c = -1∨ok (stp q c)
 step:∀W q (c:UInt8),I W→Below w0.heap.size w0 W→ok q→Calls P fs (#[.int .i64 q,.int .u8 (c.toNat:Nat)]++Cs) W fun e w'=>e=.returned (.int .i64 (stp q c))∧Below W.heap.size W w'
 final:∀W q,I W→Below w0.heap.size w0 W→ok q→Calls P ff (#[.int .i64 q]++Cf) W fun e w'=>e=.returned (.bool (fin q))∧w'=W
 yield:∀W s t o,cnt s<65536→J W s→Below w0.heap.size w0 W→Calls P fy (#[.agg #[.string (bs t),.int .i64 o]]++Cy) W fun e w'=>e=.returned (.bool (y s (t,o)).2)∧J w' (y s (t,o)).1∧Below w0.heap.size w0 w'∧KeptT (5 :: Wk.TW) w0.heap.size W w'
structure CoS {σ:Type} (w0 wx:World) (cb:Nat) (dv:Value) (fs ff fy:FuncId) (Cs Cf Cy:Array Value) (I:World→Prop) (J:World→σ→Prop) (s:σ):Prop where
 row:RowT 56 wx cb #[dv,.func (.func fs) #[] Cs,.func (.func ff) #[] Cf,.func (.func fy) #[] Cy]
 inv:I wx
 st:J wx s
 bel:Below w0.heap.size w0 wx
def BehPost {σ:Type} (w0 w:World) (cb:Nat) (dv:Value) (fs ff fy:FuncId) (Cs Cf Cy:Array Value) (I:World→Prop) (J:World→σ→Prop) (bv:Value) (b:List UInt8) (r:σ × Bool) (e:Ending) (w':World):Prop:=
 e=.returned (.bool r.2)∧CoS w0 w' cb dv fs ff fy Cs Cf Cy I J r.1∧OwnB w' w0.heap.size bv b∧KeptV bv w0.heap.size w w'
section
variable {P:Program} {σ:Type} {w0 wx w':World} {cb:Nat} {dv:Value} {fs ff fy:FuncId} {Cs Cf Cy:Array Value} {stp:Int→UInt8→Int} {fin:Int→Bool} {y:σ→Fs.En→σ × Bool} {cnt:σ→Nat} {ok:Int→Prop} {I:World→Prop} {J:World→σ→Prop} {s:σ}
theorem CoS.keep (hM:Mach P w0 fs ff fy Cs Cf Cy stp fin y cnt ok I J) (h:CoS w0 wx cb dv fs ff fy Cs Cf Cy I J s) (hb:Below wx.heap.size wx w'):CoS w0 w' cb dv fs ff fy Cs Cf Cy I J s:=
 ⟨h.row.keep (hb.block _ h.row.lt),hM.ikeep _ _ h.inv (KeptT.of_below hb),hM.jkeep _ _ _ h.st (KeptT.of_below hb),h.bel.trans (hb.mono h.bel.size)⟩
theorem CoS.grew {n:Nat} {bv bv':Value} {xs:List Value} (hM:Mach P w0 fs ff fy Cs Cf Cy stp fin y cnt ok I J) (h:CoS w0 wx cb dv fs ff fy Cs Cf Cy I J s) (hg:Grew wx w' bv bv') (ho:wx.ownsRow w0.heap.size 5 1 bv n xs):CoS w0 w' cb dv fs ff fy Cs Cf Cy I J s:=by
 have k1:=hg.keptT (T:=Wk.TJ) ho (by decide)
 have k2:=hg.keptT (T:=Wk.TW) ho (by decide)
 exact ⟨h.row.keep (k2.kind _ _ _ _ h.row (by decide)),hM.ikeep _ _ h.inv (k2.less (by decide)),hM.jkeep _ _ _ h.st k1,hg.below h.bel h.bel.size fun q hq=>(own_kind ho q hq).1⟩
theorem CoS.told {s':σ} (hM:Mach P w0 fs ff fy Cs Cf Cy stp fin y cnt ok I J) (h:CoS w0 wx cb dv fs ff fy Cs Cf Cy I J s) (h1:J w' s') (h2:Below w0.heap.size w0 w') (h3:KeptT (5 :: Wk.TW) w0.heap.size wx w'):CoS w0 w' cb dv fs ff fy Cs Cf Cy I J s':=
 ⟨h.row.keep (h3.kind _ _ _ _ h.row (by decide)),hM.ikeep _ _ h.inv (h3.less (by decide)),h1,h2⟩
end
end F12
namespace F12
open Go.RowKit Go.Maps
section
variable {P:Program} (w:World)
theorem wp_push_keepW {ops:Array Oper} {o:Oper} {a:Act} {K:Act→World→Prop} {Q:Exit→Act→World→Prop} {E:Prop} (hw:Region.wanted o (yielded ops a.tmps)=true) (s x:Operand) (t:TypeId)
  (ho:o.op=.call { callee:=.builtin .append,args:=#[s,x],argTypes:=#[t,t]})
  (base:Nat) (e:TypeId) (i:TypeInfo) (z:Value) (size bytes:Nat) (ht:P.underlying t=some (.slice e)) (hi:P.info? e=some i) (hz:i.zero=some z)
  (hsize:i.size=size) (hby:i.bytes=bytes) (hzs:z.cells.size=size) (hsz:0<size)
  (v:Value) (n:Nat) (xs:List Value) (hs:a.eval s=v) (hown:w.ownsRow base e size v n xs)
  (ad:Addr) (m c:Nat) (news:List Value) (hx:a.eval x=.slice (some ad) m c) (hm:0<m) (hl:news.length=m*size) (hnews:∀j u,news[j]?=some u→w.cell? (ad.add j)=some u) (h1:∀u∈news,u.oneCell'=true)
  (h63:n+m≤maxLen) (hbytes:(n+m)*bytes≤140737488355328) (hbase:base≤w.heap.size)
  (h:∀g cap w',w'.ownsRow base e size (.slice (some ⟨g,0,none⟩) (n+m) cap) (n+m) (xs++news)→w'.ownsRow base e size v n xs→Grew w w' v (.slice (some ⟨g,0,none⟩) (n+m) cap)→K (a.put o.dst (.slice (some ⟨g,0,none⟩) (n+m) cap)) w'):
  if Region.wanted o (yielded ops a.tmps)=true then Oper.wp P o a w K Q else E:=by
 rw [if_pos hw]
 obtain ⟨g,cap,w',hr,h2,h3,h4⟩:=run_append_keep (P:=P) w base t o.type e i z size bytes ht hi hz hsize hby hzs hsz v n xs hown ad m c news hm hl hnews h1 h63 hbytes hbase
 unfold Oper.wp execOp
 simp only [ho,resolve,invoke,builtin,Sem.run_bind,Sem.run_pure,Result.andThen_ok,List.map_toArray,List.map_cons,List.map_nil,hs,hx,hr]
 exact h g cap w' h2 h3 h4
end
theorem step_pushW {ops:Array Oper} {o:Oper} {a:Act} {K:Act→World→Prop} {Q:Exit→Act→World→Prop} {E:Prop} {w W0:World} (hw:Region.wanted o (yielded ops a.tmps)=true) (s x:Operand) (t e:TypeId)
  (ho:o.op=.call { callee:=.builtin .append,args:=#[s,x],argTypes:=#[t,t]}) (i:TypeInfo) (zv:Value) (z bytes:Nat) (ht:Tryz.prog.underlying t=some (.slice e)) (hi:Tryz.prog.info? e=some i) (hz:i.zero=some zv)
  (hsize:i.size=z) (hby:i.bytes=bytes) (hzs:zv.cells.size=z) (hz0:0<z) (B:Nat) (hB:B≤w.heap.size) (v:Value) (n:Nat) (xs:List Value) (hs:a.eval s=v) (h:w.ownsRow B e z v n xs) (hW:Below w.heap.size w W0) (cs:List Value) (hcs:cs.length=z) (h1:∀u∈cs,u.oneCell'=true)
  (ad:Addr) (hnews:∀j u,cs[j]?=some u→W0.cell? (ad.add j)=some u) (hx:a.eval x=.slice (some ad) 1 1) (hb:(n+1)*bytes≤140737488355328) (hb2:n+1≤140737488355328)
  (hk:∀g cap w',w'.ownsRow B e z (.slice (some ⟨g,0,none⟩) (n+1) cap) (n+1) (xs++cs)→w'.ownsRow B e z v n xs→Grew w w' v (.slice (some ⟨g,0,none⟩) (n+1) cap)→K (a.put o.dst (.slice (some ⟨g,0,none⟩) (n+1) cap)) w'):
  if Region.wanted o (yielded ops a.tmps)=true then Oper.wp Tryz.prog o a W0 K Q else E:=by
 refine wp_push_keepW W0 hw s x t ho B e i zv z bytes ht hi hz hsize hby hzs hz0 v n xs hs (ownsRow_keep h fun k hk=>hW.block k (h.lt k hk).2) ad 1 1 cs hx (by omega) (by rw [hcs,Nat.one_mul]) hnews h1 (by unfold maxLen;omega) hb (Nat.le_trans hB hW.size) ?_
 intro g cap w' h2 h3 h4
 have hws:=hW.size
 exact hk g cap w' h2 h3 ⟨⟨h4.kept.os.trans hW.os,h4.kept.tape.trans hW.tape,h4.kept.output.trans hW.output,Nat.le_trans hws h4.kept.size,fun k hk hf=>(h4.kept.block k (by omega) hf).trans (hW.block k hk)⟩,fun b hb=>(h4.at' b hb).imp id (fun q=>by omega)⟩
theorem behind_any {σ:Type} (w0:World) (cb db:Nat) (N:List Fs.Nd) (T:List (List Fs.En)) (least:Int) (terms:Nat) (hD:DicS w0 db N least terms) (hR:Fs.Rel N T) (hF:∀n∈N,n.2.length≤256)
  (fs ff fy:FuncId) (Cs Cf Cy:Array Value) (stp:Int→UInt8→Int) (fin:Int→Bool) (y:σ→Fs.En→σ × Bool) (cnt:σ→Nat) (okq:Int→Prop) (I:World→Prop) (J:World→σ→Prop) (hM:Mach Tryz.prog w0 fs ff fy Cs Cf Cy stp fin y cnt okq I J):
  ∀(q i:Nat) (hi:i<T.length) (w:World) (bv:Value) (b:List UInt8) (out st:Int) (s:σ),i<q→okq st→CoS w0 w cb (.pointer (some ⟨db,0,none⟩)) fs ff fy Cs Cf Cy I J s→OwnB w w0.heap.size bv b→cnt s+T[i].length≤65536→b.length+Fs.deep T[i]≤1000→-9223372036854775808≤out∧out≤9223372036854775807 →
  Calls Tryz.prog 50 #[.pointer (some ⟨cb,0,none⟩),.int .i64 (i:Int),.int .i64 st,bv,.int .i64 out] w (BehPost w0 w cb (.pointer (some ⟨db,0,none⟩)) fs ff fy Cs Cf Cy I J bv b (Wk.feed y s (Wk.sel stp fin st b out T[i])))
 | 0,_,_,_,_,_,_,_,_,h,_,_,_,_,_,_=>absurd h (Nat.not_lt_zero _)
 | q+1,i,hi,w,bv,b,out,st,s,hq,hst,hC,hB,hcnt,hdeep,hout=>by
  have ih:=lh (behind_any w0 cb db N T least terms hD hR hF fs ff fy Cs Cf Cy stp fin y cnt okq I J hM q)
  have HR:=lh hR
  have HM:=lh hM
  have ES:=hM.es
  have EF:=hM.ef
  have EY:=hM.ey
  have HLS:=lh hM.less
  have hiN:i<N.length:=by rw [←hR.len];exact hi
  have hent:=hR.ent i hiN hi
  have hahead:=hR.ahead i hiN
  have hfew:=hF N[i] (List.getElem_mem hiN)
  obtain ⟨nd,hnd⟩:∃nd,nd=N[i]:=⟨_,rfl⟩
  have HNO:Hid (∀W,Below w0.heap.size w0 W→Calls Tryz.prog 81 #[.pointer (some ⟨db,0,none⟩),.int .i64 (i:Int)] W fun e w'=>∃v,e=.returned (.tuple #[.agg #[.bool nd.1.isSome,.int .i64 (nd.1.getD 0),v],.bool true])∧OwnY w' W.heap.size v nd.2∧Below W.heap.size W w'):=fun W hb=>by
   subst hnd
   exact node_at W db N least terms (hD.below hb) i hiN (by omega)
  rw [←hnd] at hent hahead hfew
  obtain ⟨fo,ws⟩:=nd
  dsimp only at hahead HNO hfew
  have HC:=lh hC
  have HB:=lh hB
  have c0:w.cell? ⟨cb,0,none⟩=some (.pointer (some ⟨db,0,none⟩)):=hC.row.cell 0
  obtain ⟨nw,hnw⟩:∃nw,nw=ws.length:=⟨_,rfl⟩
  have HNW:=lh hnw
  have HOQ:=lh hst
  have hlT:(Fs.ofEnd fo).length+(ws.flatMap fun w=>Fs.upW w.1 w.2.1 ((T.take i).getD w.2.2 [])).length=T[i].length:=by
   rw [hent]
   show _=(Fs.ofEnd fo++_).length
   rw [List.length_append]
  have HCT:Hid (cnt s+(Fs.ofEnd fo).length+(ws.flatMap fun w=>Fs.upW w.1 w.2.1 ((T.take i).getD w.2.2 [])).length≤65536):=by show _≤_;omega
  clear hD hR hF hM hC hB hnd hiN hst hnw hlT hcnt
  obtain ⟨dv,hdv⟩:∃dv,dv=Value.pointer (some ⟨db,0,none⟩):=⟨_,rfl⟩
  have HDV:=lh hdv
  rw [←hdv] at HC ih ⊢
  clear hdv
  obtain ⟨E,hE⟩:∃E,E=Wk.sel stp fin st b out (Fs.ofEnd fo):=⟨_,rfl⟩
  have HE:=lh hE
  clear hE
  obtain ⟨rE,hrE⟩:∃rE,rE=Wk.feed y s E:=⟨_,rfl⟩
  have HRE:=lh hrE
  clear hrE
  obtain ⟨ANS,hA⟩:∃ANS,ANS=Wk.feed y s (Wk.sel stp fin st b out T[i]):=⟨_,rfl⟩
  rw [←hA]
  have HAN:=lh hA
  clear hA
  go_enter Tryz.func50,Tryz.ntmps50
  go_upto_region 2 with (go_at_call 81;go_loud ((refine (HNO.out w HC.out.bel).mono ?_;rintro e1 w1 ⟨v1,rfl,hy1,hb1⟩;obtain ⟨a1,k1,hv1,hk1,hk2⟩:=own_form hy1;rw [←HNW.out] at hv1 hk1;subst hv1;have HY1:=lh hy1;have HB1:=lh hb1;clear hy1 hb1)))
  have hbW:=HB1.out.alloc HB1.out.size (.cells #[.bool fo.isSome,.int .i64 (fo.getD 0),.slice a1 nw k1] 115)
  have hC1:=HC.out.keep HM.out hbW
  have hB1:=ownsRow_keep HB.out fun k hk=>hbW.block k (own_kind HB.out k hk).2.1
  have hX1:KeptV bv w0.heap.size w _:=KeptV.of_below hbW
  have hY1:=ownsRow_base (World.ownsRow.alloc HY1.out (.cells #[.bool fo.isSome,.int .i64 (fo.getD 0),.slice a1 nw k1] 115)) HC.out.bel.size
  have hN1:RowT 115 (w1.alloc (.cells #[.bool fo.isSome,.int .i64 (fo.getD 0),.slice a1 nw k1] 115)) w1.heap.size #[.bool fo.isSome,.int .i64 (fo.getD 0),.slice a1 nw k1]:=Go.Deep.blk_alloc_new _ _
  generalize w1.alloc (.cells #[.bool fo.isSome,.int .i64 (fo.getD 0),.slice a1 nw k1] 115)=W at *
  generalize w1.heap.size=nb at *
  have HC1:=lh hC1
  have HB2:Hid (OwnB W w0.heap.size bv b):=hB1
  have HX1:=lh hX1
  have HY2:Hid (OwnY W w0.heap.size (.slice a1 nw k1) ws):=hY1
  have HN1:=lh hN1
  clear hbW hC1 hB1 hX1 hY1 hN1 HC HB HNO c0 HY1 HB1
  go_cut [11,50] (fun s11 s50 wx=>s11=.pointer (some ⟨nb,0,none⟩)∧s50=.bool (!rE.2)∧Hid (CoS w0 wx cb dv fs ff fy Cs Cf Cy I J rE.1)∧Hid (OwnB wx w0.heap.size bv b)∧Hid (KeptV bv w0.heap.size w wx)∧Hid (RowT 115 wx nb #[.bool fo.isSome,.int .i64 (fo.getD 0),.slice a1 nw k1])∧Hid (OwnY wx w0.heap.size (.slice a1 nw k1) ws))
  case first=>
   have hdN:∀n,Below W.heap.size W (W.drewN n):=fun n=>belowN (Below.refl _ _) n
   cases fo with
   | none=>
    have hr0:rE=(s,true):=by rw [HRE.out,HE.out];rfl
    subst hr0
    have m0:W.cell? ⟨nb,0,none⟩=some (.bool false):=HN1.out.cell 0
    go_quiet (fail)
    go_wp2_with fail
    go_meet
    exact ⟨rfl,rfl,HC1.out.keep HM.out (hdN nq),ownsRow_keep HB2.out fun k hk=>(hdN nq).block k (own_kind HB2.out k hk).2.1,HX1.out.trans (KeptV.of_below (hdN nq)),HN1.out.keep ((hdN nq).block _ HN1.out.lt),ownsRow_keep HY2.out fun k hk=>(hdN nq).block k (own_kind HY2.out k hk).2.1⟩
   | some v=>
    have m0:W.cell? ⟨nb,0,none⟩=some (.bool true):=HN1.out.cell 0
    have m1:W.cell? ⟨nb,1,none⟩=some (.int .i64 v):=HN1.out.cell 1
    have m2:W.cell? ⟨cb,2,none⟩=some (.func (.func ff) #[] Cf):=HC1.out.row.cell 2
    have m3:W.cell? ⟨cb,3,none⟩=some (.func (.func fy) #[] Cy):=HC1.out.row.cell 3
    have HF:Hid (∀n,Calls Tryz.prog ff (#[.int .i64 st]++Cf) (W.drewN n) fun e w'=>e=.returned (.bool (fin st))∧w'=W.drewN n):=fun n=>HM.out.final _ st (HM.out.ikeep _ _ HC1.out.inv (KeptT.of_below (hdN n))) (HC1.out.bel.trans ((hdN n).mono HC1.out.bel.size)) HOQ.out
    by_cases hfin:fin st=true
    ·have hr0:rE=y s (b,wrap64 (out+v)):=by rw [HRE.out,HE.out,Wk.sel_some,if_pos hfin,Wk.feed_one]
     have hbd:Below W.heap.size W W.drew:=(Below.refl _ _).drew
     have hCd:=HC1.out.keep HM.out hbd
     have hBd:=ownsRow_keep HB2.out fun k hk=>hbd.block k (own_kind HB2.out k hk).2.1
     have HFD:Hid (Calls Tryz.prog ff (#[.int .i64 st]++Cf) W.drew fun e w'=>e=.returned (.bool true)∧w'=W.drew):=by
      show Calls _ _ _ _ _
      rw [←hfin]
      exact HM.out.final _ st hCd.inv hCd.bel HOQ.out
     have HYD:Hid (∀o',o'=wrap64 (out+v)→Calls Tryz.prog fy (#[.agg #[.string (bs b),.int .i64 o']]++Cy) W.drew fun e w'=>e=.returned (.bool rE.2)∧CoS w0 w' cb dv fs ff fy Cs Cf Cy I J rE.1∧KeptT (5 :: Wk.TW) w0.heap.size W.drew w'):=fun o' ho=>by
      rw [ho,hr0]
      refine (HM.out.yield _ s b _ (by have:=HCT.out;have e1:(Fs.ofEnd (some v)).length=1:=rfl;omega) hCd.st hCd.bel).mono ?_
      rintro e w' ⟨rfl,h1,h2,h3⟩
      exact ⟨rfl,hCd.told HM.out h1 h2 h3,h3⟩
     have HCV:Hid (∀wx,OwnB wx w0.heap.size bv b→(convert 102 9 bv).run Tryz.prog wx=.ok (.string (bs b)) wx):=fun wx h=>own_conv h
     have S0:W.drew.cell? ⟨cb,2,none⟩=some (.func (.func ff) #[] Cf)∧W.drew.cell? ⟨cb,3,none⟩=some (.func (.func fy) #[] Cy)∧W.drew.cell? ⟨nb,0,none⟩=some (.bool true)∧W.drew.cell? ⟨nb,1,none⟩=some (.int .i64 v)∧(convert 102 9 bv).run Tryz.prog W.drew=.ok (.string (bs b)) W.drew:=⟨m2,m3,m0,m1,HCV.out _ hBd⟩
     have HS6:Hid (∀w6,CoS w0 w6 cb dv fs ff fy Cs Cf Cy I J rE.1→KeptT (5 :: Wk.TW) w0.heap.size W.drew w6→(w6.cell? ⟨cb,2,none⟩=some (.func (.func ff) #[] Cf)∧w6.cell? ⟨cb,3,none⟩=some (.func (.func fy) #[] Cy)∧w6.cell? ⟨nb,0,none⟩=some (.bool true)∧w6.cell? ⟨nb,1,none⟩=some (.int .i64 v)∧(convert 102 9 bv).run Tryz.prog w6=.ok (.string (bs b)) w6)∧OwnB w6 w0.heap.size bv b∧KeptV bv w0.heap.size w w6∧RowT 115 w6 nb #[.bool true,.int .i64 v,.slice a1 nw k1]∧OwnY w6 w0.heap.size (.slice a1 nw k1) ws):=fun w6 h1 h2=>by
      have kk:KeptT (5 :: Wk.TW) w0.heap.size W w6:=(KeptT.of_below hbd).trans h2
      have r1:=HN1.out.keep (kk.kind _ _ _ _ HN1.out (by decide))
      have b1:OwnB w6 w0.heap.size bv b:=ownsRow_kt HB2.out kk (by decide)
      exact ⟨⟨h1.row.cell 2,h1.row.cell 3,r1.cell 0,r1.cell 1,HCV.out _ b1⟩,b1,HX1.out.trans (KeptV.of_kt kk),r1,ownsRow_kt HY2.out kk (by decide)⟩
     clear hfin hr0 hbd hCd hBd m0 m1 m2 m3 HF hdN
     go_region_held3 (fun wx=>wx.cell? ⟨cb,2,none⟩=some (.func (.func ff) #[] Cf)∧wx.cell? ⟨cb,3,none⟩=some (.func (.func fy) #[] Cy)∧wx.cell? ⟨nb,0,none⟩=some (.bool true)∧wx.cell? ⟨nb,1,none⟩=some (.int .i64 v)∧(convert 102 9 bv).run Tryz.prog wx=.ok (.string (bs b)) wx) (first | exact S0 | exact S6.1) (first | (with_reducible refine HFD.out.mono ?_;rintro e4 w4 ⟨rfl,rfl⟩) | (refine (HYD.out _ (by first | (with_reducible exact wrapEq _) | (with_reducible rfl))).mono ?_;rintro e6 w6 ⟨rfl,h1,h2⟩;have S6:=HS6.out w6 h1 h2;have HQ6:=lh h1;clear h1 h2))
     all_goals go_wp2_with fail
     all_goals go_meet
     all_goals exact ⟨rfl,rfl,HQ6.out,S6.2.1,S6.2.2.1,S6.2.2.2.1,S6.2.2.2.2⟩
    ·have hfin2:fin st=false:=by simpa using hfin
     have hr0:rE=(s,true):=by rw [HRE.out,HE.out,Wk.sel_some,if_neg hfin];rfl
     subst hr0
     rw [hfin2] at HF
     clear hfin hfin2
     go_quiet (refine Calls.quiet_of_same (HF.out _))
     go_wp2_with fail
     go_meet
     exact ⟨rfl,rfl,HC1.out.keep HM.out (hdN nq),ownsRow_keep HB2.out fun k hk=>(hdN nq).block k (own_kind HB2.out k hk).2.1,HX1.out.trans (KeptV.of_below (hdN nq)),HN1.out.keep ((hdN nq).block _ HN1.out.lt),ownsRow_keep HY2.out fun k hk=>(hdN nq).block k (own_kind HY2.out k hk).2.1⟩
  case rest=>
   obtain ⟨rfl,h50,hC2,hB2,hX2,hN2,hY2⟩:=hcut
   have hT:T[i]=Fs.ofEnd fo++ws.flatMap fun w=>Fs.upW w.1 w.2.1 ((T.take i).getD w.2.2 []):=hent
   have hdp2:Fs.deep (ws.flatMap fun w=>Fs.upW w.1 w.2.1 ((T.take i).getD w.2.2 []))≤Fs.deep T[i]:=by rw [hT,Fs.deep_append];omega
   have hans:Wk.feed y s (Wk.sel stp fin st b out T[i])=if rE.2=true then Wk.feed y rE.1 (Wk.sel stp fin st b out (ws.flatMap fun w=>Fs.upW w.1 w.2.1 ((T.take i).getD w.2.2 []))) else rE:=by
    rw [hT,Wk.sel_append,Wk.feed_append,←HE.out,←HRE.out]
   have HDP:=lh hdp2
   have HCT2:Hid (cnt rE.1+(ws.flatMap fun w=>Fs.upW w.1 w.2.1 ((T.take i).getD w.2.2 [])).length≤65536):=by
    show _≤_
    have h1:=Wk.feed_cnt cnt HLS.out E s
    rw [←HRE.out] at h1
    have h2:E.length≤(Fs.ofEnd fo).length:=by rw [HE.out];exact Wk.sel_length _ _ _ _
    have h3:=HCT.out
    omega
   rw [←HAN.out] at hans
   have HANS:=lh hans
   have HAH:=lh hahead
   clear HC1 HB2 HX1 HN1 HY2 hent hahead hT hdp2 hans HRE HE
   by_cases hr2:rE.2=true
   ·have hans:Hid (Wk.feed y rE.1 (Wk.sel stp fin st b out (ws.flatMap fun w=>Fs.upW w.1 w.2.1 ((T.take i).getD w.2.2 [])))=ANS):=by
     show _=_
     rw [HANS.out,if_pos hr2]
    rw [hr2] at h50
    simp only [Bool.not_true] at h50
    subst h50
    have m2:wc.cell? ⟨nb,2,none⟩=some (.slice a1 nw k1):=hN2.out.cell 2
    clear HANS hr2 hN2
    go_wp2_with fail
    go_loopg [54] nw (fun gg s54 wx=>∃j:Nat,j≤nw∧gg=nw-j∧s54=.int .i64 (j:Int)∧Hid (∃s',CoS w0 wx cb dv fs ff fy Cs Cf Cy I J s'∧Wk.feed y s' (Wk.sel stp fin st b out ((ws.drop j).flatMap fun w=>Fs.upW w.1 w.2.1 ((T.take i).getD w.2.2 [])))=ANS∧cnt s'+((ws.drop j).flatMap fun w=>Fs.upW w.1 w.2.1 ((T.take i).getD w.2.2 [])).length≤65536)∧Hid (OwnB wx w0.heap.size bv b)∧Hid (KeptV bv w0.heap.size w wx)∧Hid (OwnY wx w0.heap.size (.slice a1 nw k1) ws))
    case atStart=>
     exact ⟨0,Nat.zero_le _,rfl,rfl,⟨rE.1,hC2.out,by rw [List.drop_zero];exact hans.out,by rw [List.drop_zero];exact HCT2.out⟩,hB2,hX2,hY2⟩
    case round=>
     clear hC2 hB2 hX2 m2 hans hY2
     obtain ⟨j,hj,rfl,rfl,hC3,hB3,hX3,hY3⟩:=hrel
     by_cases hjn:j<nw
     ·have i1:(j:Int)<(nw:Int):=by omega
      have jx:j<ws.length:=by rw [←HNW.out];exact hjn
      obtain ⟨s3,hC3,hans,hct⟩:=hC3.out
      obtain ⟨aw,cw,hv,hcw⟩:=hY3.out.ways
      simp only [Value.slice.injEq] at hv
      have haw:=hv.1
      have hcw:=hcw.2.2
      clear hv
      subst haw
      obtain ⟨gw,rfl,hgw,hcw⟩:=hcw (by omega)
      obtain ⟨w1,w2,w3⟩:=hcw j jx
      have hto:=HAH.out _ (List.getElem_mem jx)
      rw [Fs.flat_drop jx] at hans hct
      have hpart:=Fs.flat_part (f:=fun w:UInt8 × Int × Nat=>Fs.upW w.1 w.2.1 ((T.take i).getD w.2.2 [])) (List.getElem_mem jx)
      obtain ⟨c,o,tt,hway⟩:∃c o tt,ws[j]=(c,o,tt):=⟨_,_,_,rfl⟩
      rw [hway] at w1 w2 w3 hto hans hpart hct
      dsimp only at w1 w2 w3 hto hans hpart hct
      have hto2:tt<T.length:=by omega
      have hget:(T.take i).getD tt []=T[tt]:=by
       rw [List.getD_eq_getElem?_getD,List.getElem?_take_of_lt hto,List.getElem?_eq_getElem hto2]
       rfl
      rw [hget] at hans hpart hct
      rw [List.length_append,Fs.upW_length] at hct
      rw [Wk.sel_append,Wk.sel_up,Wk.feed_append] at hans
      have hdt:b.length+1+Fs.deep T[tt]≤1000:=by
       have h1:=HDP.out
       have h2:=hpart.2
       rw [Fs.deep_upW (HR.out.full _ (List.getElem_mem hto2))] at h2
       omega
      have hcl:=c.toNat_lt
      have hbo:-9223372036854775808≤wrap64 (out+o)∧wrap64 (out+o)≤9223372036854775807:=by unfold wrap64;omega
      have HANS:=lh hans
      have HCT3:=lh hct
      have HY4:=hY3
      have HC3:=lh hC3
      clear hans hpart hway hget hC3 hcw hgw hct
      go_upto_region 8 with (fail)
      have hbW:=(Below.refl wr.heap.size wr).alloc (Nat.le_refl _) (.cells #[.int .i64 (c.toNat:Nat),.int .i64 o,.int .i64 (tt:Nat)] 118)
      have hC4:=HC3.out.keep HM.out hbW
      have hB4:=ownsRow_keep hB3.out fun k hk=>hbW.block k (own_kind hB3.out k hk).2.1
      have hX4:=hX3.out.trans (KeptV.of_below hbW)
      have hY5:=ownsRow_keep HY4.out fun k hk=>hbW.block k (own_kind HY4.out k hk).2.1
      have hn4:RowT 118 (wr.alloc (.cells #[.int .i64 (c.toNat:Nat),.int .i64 o,.int .i64 (tt:Nat)] 118)) wr.heap.size #[.int .i64 (c.toNat:Nat),.int .i64 o,.int .i64 (tt:Nat)]:=Go.Deep.blk_alloc_new _ _
      generalize wr.alloc (.cells #[.int .i64 (c.toNat:Nat),.int .i64 o,.int .i64 (tt:Nat)] 118)=W at *
      generalize wr.heap.size=vb at *
      have hu8:IntKind.u8.wrap ((c.toNat:Nat):Int)=((c.toNat:Nat):Int):=by rw [IntKind.wrap_u8];omega
      have m1:W.cell? ⟨cb,1,none⟩=some (.func (.func fs) #[] Cs):=hC4.row.cell 1
      have HST:=lh (HM.out.step W st c hC4.inv hC4.bel HOQ.out)
      have HNX:=lh (HM.out.next st c HOQ.out)
      obtain ⟨q2,hq2⟩:∃q2,q2=stp st c:=⟨_,rfl⟩
      rw [←hq2] at HST HNX HANS
      have HC4:=lh hC4
      have HB4:Hid (OwnB W w0.heap.size bv b):=hB4
      have HX4:=lh hX4
      have HY5:Hid (OwnY W w0.heap.size (.slice (some ⟨gw,0,none⟩) nw k1) ws):=hY5
      have HN4:=lh hn4
      clear hbW hC4 hB4 hX4 hY5 hn4 HC3 hB3 hX3 HY4 hY3 hq2 w1 w2 w3
      go_upto_region 9 with (with_reducible refine HST.out.mono ?_;rintro e7 w7 ⟨rfl,hb7⟩;have HB7:=lh hb7;clear hb7)
      have hC5:=HC4.out.keep HM.out HB7.out
      have hB5:=ownsRow_keep HB4.out fun k hk=>HB7.out.block k (own_kind HB4.out k hk).2.1
      have hX5:=HX4.out.trans (KeptV.of_below HB7.out)
      have hY6:=ownsRow_keep HY5.out fun k hk=>HB7.out.block k (own_kind HY5.out k hk).2.1
      have hn5:=HN4.out.keep (HB7.out.block _ HN4.out.lt)
      clear m1 HC4 HB4 HX4 HY5 HN4 HB7 HST
      by_cases hne:q2 = -1
      ·have hans:Hid (Wk.feed y s3 (Wk.sel stp fin st b out ((ws.drop (j+1)).flatMap fun w=>Fs.upW w.1 w.2.1 ((T.take i).getD w.2.2 [])))=ANS):=by
        show _=_
        rw [←HANS.out,if_pos hne]
        rfl
       subst hne
       have hdN:∀n,Below w7.heap.size w7 (w7.drewN n):=fun n=>belowN (Below.refl _ _) n
       have HC5:=lh hC5
       have HB5:Hid (OwnB w7 w0.heap.size bv b):=hB5
       have HX5:=lh hX5
       have HY6:Hid (OwnY w7 w0.heap.size (.slice (some ⟨gw,0,none⟩) nw k1) ws):=hY6
       clear hC5 hB5 hX5 hY6 hn5 HANS HNX
       go_quiet (fail)
       go_wp2_with fail
       go_roundg (nw-(j+1))
       case rel=>exact ⟨j+1,by omega,rfl,by go_num,⟨s3,HC5.out.keep HM.out (hdN nq),hans.out,by have:=HCT3.out;omega⟩,ownsRow_keep HB5.out fun k hk=>(hdN nq).block k (own_kind HB5.out k hk).2.1,HX5.out.trans (KeptV.of_below (hdN nq)),ownsRow_keep HY6.out fun k hk=>(hdN nq).block k (own_kind HY6.out k hk).2.1⟩
       case measure=>omega
      ·have hok2:okq q2:=HNX.out.resolve_left hne
       have hans:=HANS.out
       rw [if_neg hne] at hans
       have n1:(q2 == -1)=false:=by rw [beq_eq_false_iff_ne];exact hne
       have n2:decide (q2 = -1)=false:=decide_eq_false hne
       have n3:(q2 != -1)=true:=by rw [bne_iff_ne];exact hne
       have HCL:Hid (∀W sv o',o'=wrap64 (out+o)→CoS w0 W cb dv fs ff fy Cs Cf Cy I J s3→OwnB W w0.heap.size sv (b++[c])→Calls Tryz.prog 50 #[.pointer (some ⟨cb,0,none⟩),.int .i64 (tt:Int),.int .i64 q2,sv,.int .i64 o'] W (BehPost w0 W cb dv fs ff fy Cs Cf Cy I J sv (b++[c]) (Wk.feed y s3 (Wk.sel stp fin q2 (b++[c]) (wrap64 (out+o)) T[tt])))):=fun W sv o' ho h1 h2=>by
        rw [ho]
        exact ih.out tt hto2 W sv (b++[c]) (wrap64 (out+o)) q2 s3 (by omega) hok2 h1 h2 (by have:=HCT3.out;omega) (by rw [List.length_append,List.length_singleton];omega) hbo
       unfold BehPost at HCL
       obtain ⟨s4,b4,hr1⟩:∃s4 b4,(s4,b4)=Wk.feed y s3 (Wk.sel stp fin q2 (b++[c]) (wrap64 (out+o)) T[tt]):=⟨_,_,rfl⟩
       have HCT4:Hid (cnt s4+((ws.drop (j+1)).flatMap fun w=>Fs.upW w.1 w.2.1 ((T.take i).getD w.2.2 [])).length≤65536):=by
        show _≤_
        have h1:=Wk.feed_cnt cnt HLS.out (Wk.sel stp fin q2 (b++[c]) (wrap64 (out+o)) T[tt]) s3
        rw [←hr1] at h1
        have h2:=Wk.sel_length (stp:=stp) (fin:=fin) q2 (b++[c]) (wrap64 (out+o)) T[tt]
        have h3:=HCT3.out
        dsimp only at h1
        omega
       rw [←hr1] at HCL hans
       dsimp only at HCL hans
       have HANS2:=lh hans
       clear HANS
       obtain ⟨iB,hiB,hyB0,hyB1,hyB2⟩:=info_parts Tryz.infoB
       have hWB:Below w7.heap.size w7 (w7.alloc (.cells #[.int .u8 (c.toNat:Nat)] 5)):=(Below.refl _ _).alloc (Nat.le_refl _) _
       have e1:w7.drew.cell? ⟨vb,1,none⟩=some (.int .i64 o):=hn5.cell 1
       have e2:w7.drew.cell? ⟨vb,2,none⟩=some (.int .i64 (tt:Nat)):=hn5.cell 2
       have f1:(w7.alloc (.cells #[.int .u8 (c.toNat:Nat)] 5)).drew.cell? ⟨vb,1,none⟩=some (.int .i64 o):=(hn5.keep (hWB.block _ hn5.lt)).cell 1
       have f2:(w7.alloc (.cells #[.int .u8 (c.toNat:Nat)] 5)).drew.cell? ⟨vb,2,none⟩=some (.int .i64 (tt:Nat)):=(hn5.keep (hWB.block _ hn5.lt)).cell 2
       have hbB:w7.ownsRow w0.heap.size 5 1 bv b.length (bytesV b):=hB5
       have HW6:Hid (∀g5 cap5 w5,Grew w7 w5 bv (.slice (some ⟨g5,0,none⟩) (b.length+1) cap5)→(w5.cell? ⟨vb,1,none⟩=some (.int .i64 o)∧w5.cell? ⟨vb,2,none⟩=some (.int .i64 (tt:Nat)))∧CoS w0 w5 cb dv fs ff fy Cs Cf Cy I J s3):=fun g5 cap5 w5 hg=>by
        have r2:=hn5.keep ((KeptV.grew hg hbB).kept.kind _ _ _ _ hn5 (by decide))
        exact ⟨⟨r2.cell 1,r2.cell 2⟩,hC5.grew HM.out hg hbB⟩
       have HS6:Hid (∀g5 cap5 w5 w6,Grew w7 w5 bv (.slice (some ⟨g5,0,none⟩) (b.length+1) cap5)→KeptV (.slice (some ⟨g5,0,none⟩) (b.length+1) cap5) w0.heap.size w5 w6→w6.cell? ⟨vb,1,none⟩=some (.int .i64 o)∧w6.cell? ⟨vb,2,none⟩=some (.int .i64 (tt:Nat))):=fun g5 cap5 w5 w6 hg h6=>by
        have r2:=hn5.keep ((KeptV.grew hg hbB).kept.kind _ _ _ _ hn5 (by decide))
        have r4:=r2.keep (h6.kept.kind _ _ _ _ r2 (by decide))
        exact ⟨r4.cell 1,r4.cell 2⟩
       have HEND:Hid (∀g5 cap5 w5 w6,w5.ownsRow w0.heap.size 5 1 (.slice (some ⟨g5,0,none⟩) (b.length+1) cap5) (b.length+1) (bytesV b++[.int .u8 (c.toNat:Nat)])→w5.ownsRow w0.heap.size 5 1 bv b.length (bytesV b)→Grew w7 w5 bv (.slice (some ⟨g5,0,none⟩) (b.length+1) cap5)→OwnB w6 w0.heap.size (.slice (some ⟨g5,0,none⟩) (b.length+1) cap5) (b++[c])→KeptV (.slice (some ⟨g5,0,none⟩) (b.length+1) cap5) w0.heap.size w5 w6→OwnB w6 w0.heap.size bv b∧KeptV bv w0.heap.size w w6∧OwnY w6 w0.heap.size (.slice (some ⟨gw,0,none⟩) nw k1) ws):=fun g5 cap5 w5 w6 h1 h2 hg h3 h4=>by
        have h5:w6.ownsRow w0.heap.size 5 1 (.slice (some ⟨g5,0,none⟩) (b.length+1) cap5) (b.length+1) (bytesV b++[.int .u8 (c.toNat:Nat)]):=by
         have h3':=h3
         unfold OwnB at h3'
         rw [←bytesV_snoc,List.length_append,List.length_singleton] at h3'
         exact h3'
        have kg:=KeptV.grew hg hbB
        refine ⟨own_after h2 h1 h5 fun k cc fz hc hne=>h4.bytes k cc fz hc (fun q=>hne (by simpa [Value.ownBlock] using q)),?_,ownsRow_kt (ownsRow_kt hY6 kg.kept (by decide)) h4.kept (by decide)⟩
        have k:=hX5.trans kg
        refine ⟨k.kept.trans h4.kept,fun kk cc fz hc hne=>?_⟩
        have e:=k.bytes kk cc fz hc hne
        refine (h4.bytes kk cc fz (e.trans hc) (fun q=>?_)).trans e
        rcases hg.at' kk q with q1 | q1
        ·exact hne q1
        ·have:=(Array.getElem?_eq_some_iff.1 hc).1
         have:=hX5.kept.size
         omega
       have HBB:=lh hbB
       have HSZ:Hid (w0.heap.size≤w7.heap.size):=hC5.bel.size
       have hblen:b.length≤1000:=by omega
       clear HCT3
       clear hans hr1 hC5 hB5 hX5 hY6 hn5 hWB hbB hbo hdt hto hto2 HNX hok2
       have S0:=And.intro e1 e2
       have S1:=And.intro f1 f2
       go_region_held3 (fun wx=>wx.cell? ⟨vb,1,none⟩=some (.int .i64 o)∧wx.cell? ⟨vb,2,none⟩=some (.int .i64 (tt:Nat))) (first | exact S0 | exact S1 | exact S6 | exact q0) (first | (refine step_pushW (w:=w7) (by rfl) _ _ 102 5 (by rfl) iB _ 1 1 Tryz.underlying102 hiB hyB0 hyB1 hyB2 rfl (by decide) w0.heap.size HSZ.out bv b.length (bytesV b) (by rfl) HBB.out (by first | exact ((Below.refl _ _).drew).alloc (Nat.le_refl _) _ | exact ((Below.refl _ _).alloc (Nat.le_refl _) _).drew | exact (Below.refl _ _).alloc (Nat.le_refl _) _) [.int .u8 (c.toNat:Nat)] rfl (one_of rfl) ⟨w7.heap.size,0,none⟩ (by first | exact new_cells w7 _ _ | exact new_cells w7.drew _ _) (by rfl) (by omega) (by omega) ?_;intro g5 cap5 w5 hown5 hold5 hgr5;obtain ⟨q0,q3⟩:=HW6.out g5 cap5 w5 hgr5;have HO5:=lh (And.intro hown5 (And.intro hold5 hgr5));have HA5:=lh q3;clear q3 hown5 hold5 hgr5) | (go_at_call 50;refine (HCL.out w5 _ _ (by first | (with_reducible exact wrapEq _) | (with_reducible rfl)) HA5.out (by unfold OwnB;rw [←bytesV_snoc,List.length_append,List.length_singleton];exact HO5.out.1)).mono ?_;rintro e6 w6 ⟨rfl,h1,h2,h3⟩;have S6:=HS6.out g5 cap5 w5 w6 HO5.out.2.2 h3;have HQ6:=lh (HEND.out g5 cap5 w5 w6 HO5.out.1 HO5.out.2.1 HO5.out.2.2 h2 h3);have HQ7:=lh h1;clear h1 h2 h3))
       all_goals cases b4
       case true=>
        have hans:Hid (Wk.feed y s4 (Wk.sel stp fin st b out ((ws.drop (j+1)).flatMap fun w=>Fs.upW w.1 w.2.1 ((T.take i).getD w.2.2 [])))=ANS):=by
         show _=_
         rw [←HANS2.out,if_pos rfl]
        clear HANS2
        go_wp2_with fail
        go_roundg (nw-(j+1))
        case rel=>exact ⟨j+1,by omega,rfl,by go_num,⟨s4,HQ7.out,hans.out,HCT4.out⟩,HQ6.out.1,HQ6.out.2.1,HQ6.out.2.2⟩
        case measure=>omega
       case false=>
        have hans:Hid (ANS=(s4,false)):=by
         show _=_
         rw [←HANS2.out,if_neg (by simp)]
        clear HANS2
        go_wp2_with fail
        go_ret
        exact ⟨by rw [hans.out];rfl,by rw [hans.out];exact HQ7.out,HQ6.out.1,HQ6.out.2.1⟩
     ·obtain rfl:j=nw:=by omega
      have hdr:ws.drop j=[]:=List.drop_of_length_le (by rw [←HNW.out];exact Nat.le_refl _)
      obtain ⟨s3,hC3,hans,-⟩:=hC3.out
      rw [hdr] at hans
      have hfin:Hid (ANS=(s3,true)):=hans.symm
      have HC3:=lh hC3
      have i1:¬(j:Int)<(j:Int):=by omega
      clear hans hdr hC3
      go_wp2_with fail
      go_ret
      exact ⟨by rw [hfin.out];rfl,by rw [hfin.out];exact HC3.out,hB3.out,hX3.out⟩
   ·have hrf:rE.2=false:=by simpa using hr2
    have hans:Hid (ANS=rE):=by show _=_;rw [HANS.out,if_neg hr2]
    rw [hrf] at h50
    simp only [Bool.not_false] at h50
    subst h50
    clear HANS hr2
    go_wp2_with fail
    go_ret
    exact ⟨by rw [hans.out,hrf];rfl,by rw [hans.out];exact hC2.out,hB2.out,hX2.out⟩
end F12
namespace F12
open Go.RowKit Go.Maps
theorem notAhead_any (w:World) (s:List UInt8) (q:Int) (c:UInt8) (hq:Wk.okF s q) (hs:s.length≤9223372036854775806):
  Calls Tryz.prog 24 #[.string (bs s),.int .i64 q,.int .u8 (c.toNat:Nat)] w fun e w'=>e=.returned (.int .i64 (Wk.stpF s q c))∧w=w':=by
 obtain ⟨k,rfl⟩:∃k:Nat,(k:Int)=q:=⟨q.toNat,Int.toNat_of_nonneg hq.1⟩
 have hk:k≤s.length:=by have:=hq.2;omega
 have hsz:=bs_size s
 by_cases e:k=s.length
 ·subst e
  rw [Wk.stpF_end]
  rw [←hsz]
  clear hq hk hsz
  generalize bs s=T at *
  go_enter Tryz.func24,Tryz.ntmps24
  go_wp2_with fail
  go_ret
  exact ⟨rfl,rfl⟩
 ·have hlt:k<s.length:=by omega
  rw [Wk.stpF_at hlt]
  have s1:k<(bs s).size:=by rw [hsz];exact hlt
  have b1:(bs s)[k]=s[k]:=bs_get s k s1 hlt
  generalize s[k]=d at *
  have hb:(bs s).size≤9223372036854775806:=by omega
  rw [←hsz]
  clear hq hk hlt hs hsz e
  generalize bs s=T at *
  have i1:¬(k:Int)=(T.size:Int):=by omega
  have i2:((k:Int)==(T.size:Int))=false:=by rw [beq_eq_false_iff_ne];exact i1
  by_cases h1:d.toNat<c.toNat
  ·rw [if_pos h1]
   have h2:(d.toNat:Int)<(c.toNat:Int):=by omega
   go_enter Tryz.func24,Tryz.ntmps24
   go_wp2_with fail
   go_ret
   exact ⟨rfl,rfl⟩
  ·rw [if_neg h1]
   have h2:¬(d.toNat:Int)<(c.toNat:Int):=by omega
   by_cases h3:c=d
   ·subst h3
    rw [if_pos rfl]
    have i3:wrap64 ((k:Int)+1)=(k:Int)+1:=by unfold wrap64;omega
    go_enter Tryz.func24,Tryz.ntmps24
    go_wp2_with fail
    go_ret
    exact ⟨by first | rfl | rw [i3],rfl⟩
   ·rw [if_neg h3]
    have h4:((c.toNat:Int)==(d.toNat:Int))=false:=by
     rw [beq_eq_false_iff_ne]
     intro q
     exact h3 (UInt8.toNat_inj.1 (by omega))
    go_enter Tryz.func24,Tryz.ntmps24
    go_wp2_with fail
    go_ret
    exact ⟨rfl,rfl⟩
theorem fromStep_any (w:World) (sb:Nat) (s:List UInt8) (q:Int) (c:UInt8) (hq:Wk.okF s q) (hs:s.length≤9223372036854775806) (h:RowT 9 w sb #[.string (bs s)]):
  Calls Tryz.prog 23 #[.int .i64 q,.int .u8 (c.toNat:Nat),.pointer (some ⟨sb,0,none⟩)] w fun e w'=>e=.returned (.int .i64 (Wk.stpF s q c))∧w=w':=by
 have H:=lh (notAhead_any w s q c hq hs)
 have c0:w.cell? ⟨sb,0,none⟩=some (.string (bs s)):=h.cell 0
 clear h hq hs
 go_enter Tryz.func23,Tryz.ntmps23
 go_wp2_with (go_at_call 24;refine H.out.mono ?_;rintro e1 w1 ⟨rfl,rfl⟩)
 go_ret
 exact ⟨rfl,rfl⟩
theorem fromFinal_any (w:World) (sb:Nat) (s:List UInt8) (q:Int) (h:RowT 9 w sb #[.string (bs s)]):
  Calls Tryz.prog 25 #[.int .i64 q,.pointer (some ⟨sb,0,none⟩)] w fun e w'=>e=.returned (.bool (Wk.finF s q))∧w=w':=by
 have c0:w.cell? ⟨sb,0,none⟩=some (.string (bs s)):=h.cell 0
 have hsz:=bs_size s
 unfold Wk.finF
 rw [←hsz]
 clear h hsz
 generalize bs s=T at *
 go_enter Tryz.func25,Tryz.ntmps25
 go_wp2_with fail
 go_ret
 exact ⟨rfl,rfl⟩
end F12
end Go.Proofs.YtmdefnbpimfbgaaGreatDoor

/-
  Lemmas on automata, dictionaries and the walk over them, the program's calls and the given ones.
-/
import Derived.Test.YtmdefnbpimfbgaaGreatDoorQ10
set_option maxRecDepth 100000
set_option maxHeartbeats 16000000
namespace Go.Proofs.YtmdefnbpimfbgaaGreatDoor
section
open Go.RowKit
namespace Au
theorem row_few {n:Nat} {c:Int} {l:List Arc} (h:Row n c l):(l.length:Int)≤max c 0:=by
 have hk:∀k (hk:k<l.length),(k:Int)≤l[k].lo:=by
  intro k
  induction k with
  | zero=>intro hk;exact (h.1 0 hk).1
  | succ k ih=>
   intro hk
   have:=ih (by omega)
   have:=h.1 k (by omega)
   have:=h.2 k hk
   omega
 by_cases h0:l.length=0
 ·omega
 ·have:=hk (l.length-1) (by omega)
  have:=h.1 (l.length-1) (by omega)
  omega
end Au
def encP (p:Nat × Nat):ByteArray:=encI [(p.1:Int),(p.2:Int)]
theorem two_new (w:World) (c1 c2:List Value) (t1 t2:TypeId):(∀j u,c1[j]?=some u→((w.alloc (.cells c1.toArray t1)).alloc (.cells c2.toArray t2)).drew.cell? ⟨w.heap.size,j,none⟩=some u) ∧
  (∀j u,c2[j]?=some u→((w.alloc (.cells c1.toArray t1)).alloc (.cells c2.toArray t2)).drew.cell? ⟨w.heap.size+1,j,none⟩=some u)∧((w.alloc (.cells c1.toArray t1)).alloc (.cells c2.toArray t2)).drew.heap.size=w.heap.size+2:=by
 refine ⟨fun j u h=>?_,fun j u h=>?_,by simp⟩
 ·have h1:=cell_at w c1 t1 j u h
  exact (cell_same (a:=⟨w.heap.size,j,none⟩) (Go.Deep.blk_alloc_lt _ _ _ (by simp))).trans h1
 ·have h1:=cell_at (w.alloc (.cells c1.toArray t1)) c2 t2 j u h
  rw [show (w.alloc (.cells c1.toArray t1)).heap.size=w.heap.size+1 by simp] at h1
  exact h1
structure Plk (w3 w:World) (κ:Nat→Nat) (v:Value) (T:List (Au.Trail ByteArray)):Prop where
 row:RowC κ 1 w 99 3 v T.length (ldsV T)
 lo:LoB κ w w3.heap.size
 below:Below w3.heap.size w3 w
theorem Plk.start (w:World):Plk w w (fun _=>0) (.slice none 0 0) []:=⟨RowC.nil _ _ _ _ _,fun _ _ h=>absurd rfl h,Below.refl _ _⟩
theorem Plk.keep {w3 w w':World} {κ:Nat→Nat} {v:Value} {T:List (Au.Trail ByteArray)} (h:Plk w3 w κ v T) (hb:Below w.heap.size w w'):Plk w3 w' (paint κ w.heap.size 0) v T:=
 ⟨h.row.step (Step.of_below hb) (by decide),h.lo.step (Step.of_below (c:=0) hb) h.below.size,chain h.below hb⟩
theorem Plk.push {w3 w w':World} {κ:Nat→Nat} {g cp:Nat} {v:Value} {T:List (Au.Trail ByteArray)} {x:Au.Trail ByteArray} (h:Plk w3 w κ v T)
  (hr:RowC (paint κ w.heap.size 1) 1 w' 99 3 (.slice (some ⟨g,0,none⟩) (T.length+1) cp) (T.length+1) (ldsV T++[.int .i64 (x.lo:Int),.int .i64 (x.hi:Int),.string x.to])) (hs:Step κ 1 w w' (paint κ w.heap.size 1)):Plk w3 w' (paint κ w.heap.size 1) (.slice (some ⟨g,0,none⟩) (T.length+1) cp) (T++[x]):=
 ⟨by rw [←ldsV_snoc,List.length_append];exact hr,h.lo.step hs h.below.size,hs.below h.lo (by decide) h.below h.below.size⟩
theorem pairLook_any (F:Nat→Prop) (w:World) (p:Nat) (va vb:Value) (a b:List Au.St) (st:Nat × Nat) (hp:w.heap[p]?=some (.cells #[va,vb] 65 (0,0))) (ha:StS F w va a) (hb:StS F w vb b) (fa:Au.Fits a) (fb:Au.Fits b) (h1:st.1<a.length) (h2:st.2<b.length):
  Calls Tryz.prog 37 #[.pointer (some ⟨p,0,none⟩),.string (encP st)] w fun e w'=>∃v,e=.returned (.tuple #[.bool ((Au.pair (Au.ofL a) (Au.ofL b)).plain.fin st),v])∧LdsS (fun g=>w.heap.size≤g) w' v ((Au.cross (Au.arcsOf a st.1) (Au.arcsOf b st.2)).map fun z=>(⟨z.lo,z.hi,encP z.to⟩:Au.Trail ByteArray))∧Below w.heap.size w w':=by
 obtain ⟨s,t⟩:=st
 dsimp only at h1 h2 ⊢
 have ka:=fa.top
 have kb:=fb.top
 have HNO:=lh (numbersOf_any w [(s:Int),(t:Int)] (fun x hx=>by simp at hx;rcases hx with rfl | rfl <;> omega) (by simp))
 have lp:p<w.heap.size:=(Array.getElem?_eq_some_iff.1 hp).1
 have hp0:w.cell? ⟨p,0,none⟩=some va:=by simp [World.cell?,hp]
 have hp1:w.cell? ⟨p,1,none⟩=some vb:=by simp [World.cell?,hp]
 obtain ⟨aa,ca,rfl,la1,la2,hac⟩:=ha
 obtain ⟨ab,cb,rfl,lb1,lb2,hbc⟩:=hb
 obtain ⟨ga,oa,rfl,lga,_,hac2⟩:=hac (by omega)
 obtain ⟨gb,ob,rfl,lgb,_,hbc2⟩:=hbc (by omega)
 obtain ⟨a1,wa,a2,haa⟩:=hac2 s h1
 obtain ⟨b1,wb,b2,hbb⟩:=hbc2 t h2
 have eA:a[s].arcs=Au.arcsOf a s:=by unfold Au.arcsOf;rw [List.getElem?_eq_getElem h1]
 have eB:b[t].arcs=Au.arcsOf b t:=by unfold Au.arcsOf;rw [List.getElem?_eq_getElem h2]
 have eF:Hid ((Au.pair (Au.ofL a) (Au.ofL b)).plain.fin (s,t)=(a[s].fin&&b[t].fin)):=by
  show ((match a[s]? with | none=>false | some s=>s.fin)&&(match b[t]? with | none=>false | some s=>s.fin))=_
  rw [List.getElem?_eq_getElem h1,List.getElem?_eq_getElem h2]
 have hRa:=lh (Au.arcsOf_row fa.row s)
 have hRb:=lh (Au.arcsOf_row fb.row t)
 rw [eF.out]
 rw [eA] at haa
 rw [eB] at hbb
 have hla:(Au.arcsOf a s).length≤256:=by have:=Au.row_few hRa.out;omega
 have hlb:(Au.arcsOf b t).length≤256:=by have:=Au.row_few hRb.out;omega
 generalize Au.arcsOf a s=X at *
 clear hac hac2 hbc hbc2 hp
 generalize Au.arcsOf b t=Y at *
 generalize a[s].fin=f1 at *
 generalize b[t].fin=f2 at *
 clear eA eB eF fa fb
 generalize a.length=na at *
 generalize b.length=nb at *
 obtain ⟨aw,cw,rfl,wl1,wl2,hX⟩:=haa
 obtain ⟨bw,cx,rfl,xl1,xl2,hY⟩:=hbb
 have jA:(s:Int)<(na:Int):=by omega
 have jB:(t:Int)<(nb:Int):=by omega
 have HX:=lh hX
 have HY:=lh hY
 clear hX hY
 have henc:encP (s,t)=encI [(s:Int),(t:Int)]:=rfl
 rw [henc]
 clear henc
 have HCE:Hid (∀w1,Below w.heap.size w w1→w1.cell? ⟨p,0,none⟩=some (.slice (some ⟨ga,oa,none⟩) na ca)∧w1.cell? ⟨p,1,none⟩=some (.slice (some ⟨gb,ob,none⟩) nb cb)∧w1.cell? ⟨ga,oa+s*2,none⟩=some (.bool f1)∧w1.cell? ⟨ga,oa+s*2+1,none⟩=some (.slice aw X.length cw)∧w1.cell? ⟨gb,ob+t*2,none⟩=some (.bool f2)∧w1.cell? ⟨gb,ob+t*2+1,none⟩=some (.slice bw Y.length cx)):=fun w1 h=>
  ⟨(cell_same (h.block p lp)).trans hp0,(cell_same (h.block p lp)).trans hp1,(cell_same (h.block ga lga)).trans a1,(cell_same (h.block ga lga)).trans a2,(cell_same (h.block gb lgb)).trans b1,(cell_same (h.block gb lgb)).trans b2⟩
 clear a1 a2 b1 b2 hp0 hp1
 go_enter Tryz.func37,Tryz.ntmps37
 go_upto_region 2 with (go_at_call 57;refine HNO.out.mono ?_;rintro e w1 ⟨v1,rfl,⟨an,cn,rfl,_,_,h1⟩,hb1⟩;obtain ⟨gn,on,rfl,lgn,hgn,hn⟩:=h1 (by simp);have n0:w1.cell? ⟨gn,on,none⟩=some (.int .i64 (s:Int)):=hn 0 (by simp);have n1:w1.cell? ⟨gn,on+1,none⟩=some (.int .i64 (t:Int)):=hn 1 (by simp);obtain ⟨c0,c1,c2,c3,c4,c5⟩:=HCE.out w1 hb1;have HB1:=lh hb1;have HNN:=lh (And.intro lgn (And.intro n0 n1));clear hn h1 hb1)
 go_cut [7,8] (fun s7 s8 wx=>∃qa qb,s7=.pointer (some ⟨qa,0,none⟩)∧s8=.pointer (some ⟨qb,0,none⟩)∧Hid (Below w1.heap.size w1 wx∧qa<wx.heap.size∧qb<wx.heap.size∧w1.heap.size≤qa∧w1.heap.size≤qb)∧Hid (wx.cell? ⟨qa,0,none⟩=some (.bool f1)∧wx.cell? ⟨qa,1,none⟩=some (.slice aw X.length cw)∧wx.cell? ⟨qb,0,none⟩=some (.bool f2)∧wx.cell? ⟨qb,1,none⟩=some (.slice bw Y.length cx)))
 case first=>
  have hbW:∀o1 o2,Below w1.heap.size w1 ((w1.alloc o1).alloc o2).drew:=fun o1 o2=>(((Below.refl _ _).alloc (Nat.le_refl _) _).alloc (by simp) _).drew
  have HBW:=lh hbW
  have d0:=fun o1 o2=>(HCE.out _ (chain HB1.out (hbW o1 o2))).1
  have d1:=fun o1 o2=>(HCE.out _ (chain HB1.out (hbW o1 o2))).2.1
  have d2:=fun o1 o2=>(HCE.out _ (chain HB1.out (hbW o1 o2))).2.2.1
  have d3:=fun o1 o2=>(HCE.out _ (chain HB1.out (hbW o1 o2))).2.2.2.1
  have d4:=fun o1 o2=>(HCE.out _ (chain HB1.out (hbW o1 o2))).2.2.2.2.1
  have d5:=fun o1 o2=>(HCE.out _ (chain HB1.out (hbW o1 o2))).2.2.2.2.2
  have m0:=fun o1 o2=>(cell_same (a:=⟨gn,on,none⟩) ((hbW o1 o2).block gn HNN.out.1)).trans HNN.out.2.1
  have m1:=fun o1 o2=>(cell_same (a:=⟨gn,on+1,none⟩) ((hbW o1 o2).block gn HNN.out.1)).trans HNN.out.2.2
  have hbV:∀o1,Below w1.heap.size w1 (w1.alloc o1).drew:=fun o1=>((Below.refl _ _).alloc (Nat.le_refl _) _).drew
  have f0:=fun o1=>(HCE.out _ (chain HB1.out (hbV o1))).1
  have f1':=fun o1=>(HCE.out _ (chain HB1.out (hbV o1))).2.1
  have f2':=fun o1=>(HCE.out _ (chain HB1.out (hbV o1))).2.2.1
  have f3:=fun o1=>(HCE.out _ (chain HB1.out (hbV o1))).2.2.2.1
  have f4:=fun o1=>(HCE.out _ (chain HB1.out (hbV o1))).2.2.2.2.1
  have f5:=fun o1=>(HCE.out _ (chain HB1.out (hbV o1))).2.2.2.2.2
  have g0:=fun o1=>(cell_same (a:=⟨gn,on,none⟩) ((hbV o1).block gn HNN.out.1)).trans HNN.out.2.1
  have g1:=fun o1=>(cell_same (a:=⟨gn,on+1,none⟩) ((hbV o1).block gn HNN.out.1)).trans HNN.out.2.2
  clear hbW hbV
  go_region
  all_goals
   go_wp2_with fail
   go_meet
   first
    | (have hn:=two_new w1 [.bool f1,.slice aw X.length cw] [.bool f2,.slice bw Y.length cx] 61 61;exact ⟨_,_,rfl,rfl,⟨HBW.out _ _,by rw [hn.2.2];omega,by rw [hn.2.2];omega,Nat.le_refl _,Nat.le_succ _⟩,hn.1 0 _ rfl,hn.1 1 _ rfl,hn.2.1 0 _ rfl,hn.2.1 1 _ rfl⟩)
    | (have hn:=two_new w1 [.bool f2,.slice bw Y.length cx] [.bool f1,.slice aw X.length cw] 61 61;exact ⟨_,_,rfl,rfl,⟨HBW.out _ _,by rw [hn.2.2];omega,by rw [hn.2.2];omega,Nat.le_succ _,Nat.le_refl _⟩,hn.2.1 0 _ rfl,hn.2.1 1 _ rfl,hn.1 0 _ rfl,hn.1 1 _ rfl⟩)
 case rest=>
  obtain ⟨qa,qb,rfl,rfl,hq1,hq2⟩:=hcut
  generalize wc=w3 at *
  obtain ⟨e1,e2,e3,e4⟩:=hq2.out
  have HQ:Hid (Below w.heap.size w w3):=chain HB1.out hq1.out.1
  have HQ1:Hid (qa<w3.heap.size∧qb<w3.heap.size):=⟨hq1.out.2.1,hq1.out.2.2.1⟩
  have hk0:Hid (Plk w3 w3 (fun _=>0) (.slice none 0 0) []):=Plk.start w3
  clear hq1 hq2 c0 c1 c2 c3 c4 c5
  have HQC:Hid (∀W,Below w3.heap.size w3 W→W.cell? ⟨qa,0,none⟩=some (.bool f1)∧W.cell? ⟨qa,1,none⟩=some (.slice aw X.length cw)∧W.cell? ⟨qb,0,none⟩=some (.bool f2)∧W.cell? ⟨qb,1,none⟩=some (.slice bw Y.length cx)):=fun W h=>
   ⟨(cell_same (a:=⟨qa,0,none⟩) (h.block _ HQ1.out.1)).trans e1,(cell_same (a:=⟨qa,1,none⟩) (h.block _ HQ1.out.1)).trans e2,(cell_same (a:=⟨qb,0,none⟩) (h.block _ HQ1.out.2)).trans e3,(cell_same (a:=⟨qb,1,none⟩) (h.block _ HQ1.out.2)).trans e4⟩
  clear e1 e2 e3 e4
  go_wp2_with fail
  go_loopg [5,9,10] (X.length+Y.length) (fun gg s5 s9 s10 wx=>∃(i k:Nat) (κ:Nat→Nat) (T:List (Au.Trail (Nat × Nat))),i≤X.length∧k≤Y.length∧gg=X.length+Y.length-i-k∧s9=.int .i64 i∧s10=.int .i64 k∧T.length≤i+k∧Hid (T++Au.cross (X.drop i) (Y.drop k)=Au.cross X Y)∧Hid (Plk w3 wx κ s5 (T.map fun z=>(⟨z.lo,z.hi,encP z.to⟩:Au.Trail ByteArray))))
  case atStart=>exact ⟨0,0,_,[],Nat.zero_le _,Nat.zero_le _,rfl,rfl,rfl,Nat.zero_le _,rfl,hk0⟩
  case round=>
   clear hk0
   obtain ⟨i,k,κ,T,hi,hk,rfl,rfl,rfl,hT,hTX,hP⟩:=hrel
   obtain ⟨x1,x2,x3,x4⟩:=HQC.out wr hP.out.below
   have hTl:(T.map fun z=>(⟨z.lo,z.hi,encP z.to⟩:Au.Trail ByteArray)).length=T.length:=by simp
   have HEN:Au.cross X Y=T→LdsS (fun g=>w.heap.size≤g) wr u5 ((Au.cross X Y).map fun z=>(⟨z.lo,z.hi,encP z.to⟩:Au.Trail ByteArray)):=fun e=>by
    rw [e]
    exact hP.out.row.leads _ (fun g hg hc=>by have:=HQ.out.size;have:=hP.out.lo g hg (by rw [hc];decide);omega)
   have HEN:=lh HEN
   have HBR:Hid (Below w.heap.size w wr):=chain HQ.out hP.out.below
   have hform:=hP.out.row.form
   rw [hTl] at hform
   obtain ⟨v5,cp5,rfl,_,_,_⟩:=hform
   by_cases hiX:i<X.length
   ·by_cases hkY:k<Y.length
    ·have k1:(i:Int)<(X.length:Int):=by omega
     have k2:(k:Int)<(Y.length:Int):=by omega
     obtain ⟨gx,ox,rfl,lgx,_,hX⟩:=HX.out (by omega)
     obtain ⟨gy,oy,rfl,lgy,_,hY⟩:=HY.out (by omega)
     have hX:=hX i hiX
     have hY:=hY k hkY
     have rx:=hRa.out.1 i hiX
     have ry:=hRb.out.1 k hkY
     have hcx:Au.cross (X.drop i) (Y.drop k)=Au.crossOne X[i] Y[k]++if X[i].hi≤Y[k].hi then Au.cross (X.drop (i+1)) (Y.drop k) else Au.cross (X.drop i) (Y.drop (k+1)):=by
      rw [List.drop_eq_getElem_cons hiX,List.drop_eq_getElem_cons hkY,Au.cross_cons]
     have HTX:=hTX.out
     rw [hcx,←List.append_assoc] at HTX
     unfold Au.crossOne at HTX
     have HTX:=lh HTX
     clear hcx hTX
     generalize X[i]=xx at *
     generalize Y[k]=yy at *
     obtain ⟨xlo,xhi,xto⟩:=xx
     obtain ⟨ylo,yhi,yto⟩:=yy
     dsimp only at hX hY rx ry HTX
     obtain ⟨xl,rfl⟩:∃p:Nat,xlo=(p:Int):=⟨xlo.toNat,by omega⟩
     obtain ⟨xh,rfl⟩:∃p:Nat,xhi=(p:Int):=⟨xhi.toNat,by omega⟩
     obtain ⟨xt,rfl⟩:∃p:Nat,xto=(p:Int):=⟨xto.toNat,by omega⟩
     obtain ⟨yl,rfl⟩:∃p:Nat,ylo=(p:Int):=⟨ylo.toNat,by omega⟩
     obtain ⟨yh,rfl⟩:∃p:Nat,yhi=(p:Int):=⟨yhi.toNat,by omega⟩
     obtain ⟨yt,rfl⟩:∃p:Nat,yto=(p:Int):=⟨yto.toNat,by omega⟩
     have hC:∀W,Below wr.heap.size wr W→(W.cell? ⟨gx,ox+i*3,none⟩=some (.int .i64 (xl:Int))∧W.cell? ⟨gx,ox+i*3+1,none⟩=some (.int .i64 (xh:Int))∧W.cell? ⟨gx,ox+i*3+2,none⟩=some (.int .i64 (xt:Int)) ∧
       W.cell? ⟨gy,oy+k*3,none⟩=some (.int .i64 (yl:Int))∧W.cell? ⟨gy,oy+k*3+1,none⟩=some (.int .i64 (yh:Int))∧W.cell? ⟨gy,oy+k*3+2,none⟩=some (.int .i64 (yt:Int)) ∧
       W.cell? ⟨qa,1,none⟩=some (.slice (some ⟨gx,ox,none⟩) X.length cw)∧W.cell? ⟨qb,1,none⟩=some (.slice (some ⟨gy,oy,none⟩) Y.length cx)):=fun W h=>by
      have hb:=chain HBR.out h
      obtain ⟨_,z2,_,z4⟩:=HQC.out W (chain hP.out.below h)
      exact ⟨(cell_same (hb.block gx lgx)).trans hX.1,(cell_same (hb.block gx lgx)).trans hX.2.1,(cell_same (hb.block gx lgx)).trans hX.2.2,(cell_same (hb.block gy lgy)).trans hY.1,(cell_same (hb.block gy lgy)).trans hY.2.1,(cell_same (hb.block gy lgy)).trans hY.2.2,z2,z4⟩
     have HC:=lh hC
     clear hC hX hY
     go_upto_region 5 with (fail)
     go_cut [11,12] (fun s11 s12 wx=>∃qx qy,s11=.pointer (some ⟨qx,0,none⟩)∧s12=.pointer (some ⟨qy,0,none⟩)∧Hid (Below wr.heap.size wr wx∧(qx<wx.heap.size∧wr.heap.size≤qx)∧qy<wx.heap.size∧wr.heap.size≤qy)∧Hid ((wx.cell? ⟨qx,0,none⟩=some (.int .i64 (xl:Int))∧wx.cell? ⟨qx,1,none⟩=some (.int .i64 (xh:Int))∧wx.cell? ⟨qx,2,none⟩=some (.int .i64 (xt:Int)))∧wx.cell? ⟨qy,0,none⟩=some (.int .i64 (yl:Int))∧wx.cell? ⟨qy,1,none⟩=some (.int .i64 (yh:Int))∧wx.cell? ⟨qy,2,none⟩=some (.int .i64 (yt:Int))))
     case first=>
      have hbW:∀o1 o2,Below wr.heap.size wr ((wr.alloc o1).alloc o2).drew:=fun o1 o2=>(((Below.refl _ _).alloc (Nat.le_refl _) _).alloc (by simp) _).drew
      have hbV:∀o1,Below wr.heap.size wr (wr.alloc o1).drew:=fun o1=>((Below.refl _ _).alloc (Nat.le_refl _) _).drew
      have HBW:=lh hbW
      obtain ⟨b1,b2,b3,b4,b5,b6,b7,b8⟩:=HC.out wr (Below.refl _ _)
      have d1:=fun o1 o2=>(HC.out _ (hbW o1 o2)).1
      have d2:=fun o1 o2=>(HC.out _ (hbW o1 o2)).2.1
      have d3:=fun o1 o2=>(HC.out _ (hbW o1 o2)).2.2.1
      have d4:=fun o1 o2=>(HC.out _ (hbW o1 o2)).2.2.2.1
      have d5:=fun o1 o2=>(HC.out _ (hbW o1 o2)).2.2.2.2.1
      have d6:=fun o1 o2=>(HC.out _ (hbW o1 o2)).2.2.2.2.2.1
      have d7:=fun o1 o2=>(HC.out _ (hbW o1 o2)).2.2.2.2.2.2.1
      have d8:=fun o1 o2=>(HC.out _ (hbW o1 o2)).2.2.2.2.2.2.2
      have v1:=fun o1=>(HC.out _ (hbV o1)).1
      have v2:=fun o1=>(HC.out _ (hbV o1)).2.1
      have v3:=fun o1=>(HC.out _ (hbV o1)).2.2.1
      have v4:=fun o1=>(HC.out _ (hbV o1)).2.2.2.1
      have v5':=fun o1=>(HC.out _ (hbV o1)).2.2.2.2.1
      have v6:=fun o1=>(HC.out _ (hbV o1)).2.2.2.2.2.1
      have v7:=fun o1=>(HC.out _ (hbV o1)).2.2.2.2.2.2.1
      have v8:=fun o1=>(HC.out _ (hbV o1)).2.2.2.2.2.2.2
      clear hbW hbV x1 x2 x3 x4
      go_region
      all_goals
       go_wp2_with fail
       go_meet
       first
        | (have hn:=two_new wr [.int .i64 (xl:Int),.int .i64 (xh:Int),.int .i64 (xt:Int)] [.int .i64 (yl:Int),.int .i64 (yh:Int),.int .i64 (yt:Int)] 71 71;exact ⟨_,_,rfl,rfl,⟨HBW.out _ _,⟨by rw [hn.2.2];omega,Nat.le_refl _⟩,by rw [hn.2.2];omega,Nat.le_succ _⟩,⟨hn.1 0 _ rfl,hn.1 1 _ rfl,hn.1 2 _ rfl⟩,hn.2.1 0 _ rfl,hn.2.1 1 _ rfl,hn.2.1 2 _ rfl⟩)
        | (have hn:=two_new wr [.int .i64 (yl:Int),.int .i64 (yh:Int),.int .i64 (yt:Int)] [.int .i64 (xl:Int),.int .i64 (xh:Int),.int .i64 (xt:Int)] 71 71;exact ⟨_,_,rfl,rfl,⟨HBW.out _ _,⟨by rw [hn.2.2];omega,Nat.le_succ _⟩,by rw [hn.2.2];omega,Nat.le_refl _⟩,⟨hn.2.1 0 _ rfl,hn.2.1 1 _ rfl,hn.2.1 2 _ rfl⟩,hn.1 0 _ rfl,hn.1 1 _ rfl,hn.1 2 _ rfl⟩)
     case rest=>
      obtain ⟨qx,qy,rfl,rfl,hq1,hq2⟩:=hcut
      obtain ⟨⟨e1,e2,e3⟩,e4,e5,e6⟩:=hq2.out
      generalize wc=wb at *
      go_upto_region 6 with (fail)
      go_cut [13,14] (fun s13 s14 wx=>s13=.int .i64 ((max xl yl:Nat):Int)∧s14=.int .i64 ((min xh yh:Nat):Int)∧wx=wb.drew)
      case first=>
       go_region
       all_goals
        go_wp2_with fail
        go_meet
        exact ⟨congrArg (Value.int .i64) (by omega),congrArg (Value.int .i64) (by omega),rfl⟩
      case rest=>
       obtain ⟨rfl,rfl,rfl⟩:=hcut
       have HT1:=HTX.out
       rw [show max (xl:Int) (yl:Int)=((max xl yl:Nat):Int) by omega,show min (xh:Int) (yh:Int)=((min xh yh:Nat):Int) by omega] at HT1
       simp only [Int.toNat_natCast] at HT1
       have hLb:max xl yl≤255:=by omega
       generalize max xl yl=L at *
       generalize min xh yh=H at *
       have HB3:Hid (Below wr.heap.size wr wb.drew):=hq1.out.1.drew
       have hK:Hid (Plk w3 wb.drew (paint κ wr.heap.size 0) (.slice v5 T.length cp5) (T.map fun z=>(⟨z.lo,z.hi,encP z.to⟩:Au.Trail ByteArray))):=hP.out.keep HB3.out
       have e1:wb.drew.cell? ⟨qx,0,none⟩=_:=e1
       have e2:wb.drew.cell? ⟨qx,1,none⟩=_:=e2
       have e3:wb.drew.cell? ⟨qx,2,none⟩=_:=e3
       have e4:wb.drew.cell? ⟨qy,0,none⟩=_:=e4
       have e5:wb.drew.cell? ⟨qy,1,none⟩=_:=e5
       have e6:wb.drew.cell? ⟨qy,2,none⟩=_:=e6
       have hqq:Hid ((qx<wb.drew.heap.size∧paint κ wr.heap.size 0 qx=0)∧qy<wb.drew.heap.size∧paint κ wr.heap.size 0 qy=0):=⟨⟨hq1.out.2.1.1,paint_new _ _ _ _ hq1.out.2.1.2⟩,hq1.out.2.2.1,paint_new _ _ _ _ hq1.out.2.2.2⟩
       clear hq1 hq2 HTX hP HC HB3
       generalize wb.drew=W at *
       generalize paint κ wr.heap.size 0=κ1 at *
       by_cases hl:(L:Int)≤(H:Int)
       ·rw [if_pos hl] at HT1
        have hTl2:(T++[(⟨L,H,(xt,yt)⟩:Au.Trail (Nat × Nat))]).length=T.length+1:=by simp
        have HNU:=lh (nums_any (W.alloc (.cells #[.int .i64 (xt:Int),.int .i64 (yt:Int)] 3)) [(xt:Int),(yt:Int)] 2 2 W.heap.size 0 (by omega) rfl (by simp) (fun j h=>by
         have:=cell_at W [.int .i64 (xt:Int),.int .i64 (yt:Int)] 3
         match j,h with
         | 0,_=>exact this 0 _ rfl
         | 1,_=>exact this 1 _ rfl) (fun n hn=>by simp at hn;rcases hn with rfl | rfl <;> omega))
        have HKK:Hid (∀w9,Below (W.alloc (.cells #[.int .i64 (xt:Int),.int .i64 (yt:Int)] 3)).heap.size (W.alloc (.cells #[.int .i64 (xt:Int),.int .i64 (yt:Int)] 3)) w9→Plk w3 w9 (paint κ1 W.heap.size 0) (.slice v5 T.length cp5) (T.map fun z=>(⟨z.lo,z.hi,encP z.to⟩:Au.Trail ByteArray))∧Below W.heap.size W w9):=fun w9 h=>by
         have hb:Below W.heap.size W w9:=chain ((Below.refl _ _).alloc (Nat.le_refl _) _) h
         exact ⟨hK.out.keep hb,hb⟩
        have HPU:Hid (∀w9 w10 g cp,Plk w3 w9 (paint κ1 W.heap.size 0) (.slice v5 T.length cp5) (T.map fun z=>(⟨z.lo,z.hi,encP z.to⟩:Au.Trail ByteArray))→Below W.heap.size W w9→RowC (paint (paint κ1 W.heap.size 0) w9.heap.size 1) 1 w10 99 3 (.slice (some ⟨g,0,none⟩) (T.length+1) cp) (T.length+1) (ldsV (T.map fun z=>(⟨z.lo,z.hi,encP z.to⟩:Au.Trail ByteArray))++[.int .i64 (L:Int),.int .i64 (H:Int),.string (encP (xt,yt))])→Step (paint κ1 W.heap.size 0) 1 w9 w10 (paint (paint κ1 W.heap.size 0) w9.heap.size 1) →
          Plk w3 w10 (paint (paint κ1 W.heap.size 0) w9.heap.size 1) (.slice (some ⟨g,0,none⟩) (T.length+1) cp) ((T++[(⟨L,H,(xt,yt)⟩:Au.Trail (Nat × Nat))]).map fun z=>(⟨z.lo,z.hi,encP z.to⟩:Au.Trail ByteArray))∧w10.cell? ⟨qx,1,none⟩=some (.int .i64 (xh:Int))∧w10.cell? ⟨qy,1,none⟩=some (.int .i64 (yh:Int))):=fun w9 w10 g cp h hb h1 h2=>by
         obtain ⟨⟨z1,z2⟩,z3,z4⟩:=hqq.out
         have o1:paint κ1 W.heap.size 0 qx=0:=by rw [paint_old _ _ _ _ z1];exact z2
         have o2:paint κ1 W.heap.size 0 qy=0:=by rw [paint_old _ _ _ _ z3];exact z4
         refine ⟨?_,(cell_same (a:=⟨qx,1,none⟩) ((h2.block qx (Nat.lt_of_lt_of_le z1 hb.size) (by rw [o1];decide)).trans (hb.block qx z1))).trans e2,(cell_same (a:=⟨qy,1,none⟩) ((h2.block qy (Nat.lt_of_lt_of_le z3 hb.size) (by rw [o2];decide)).trans (hb.block qy z3))).trans e5⟩
         rw [List.map_append]
         have hh:=h.push (g:=g) (cp:=cp) (x:=⟨L,H,encP (xt,yt)⟩) (by rw [hTl];exact h1) h2
         rw [hTl] at hh
         exact hh
        have hrow:Hid (∀w9 κ',Plk w3 w9 κ' (.slice v5 T.length cp5) (T.map fun z=>(⟨z.lo,z.hi,encP z.to⟩:Au.Trail ByteArray))→RowC κ' 1 w9 99 3 (.slice v5 T.length cp5) T.length (ldsV (T.map fun z=>(⟨z.lo,z.hi,encP z.to⟩:Au.Trail ByteArray)))):=fun w9 κ' h=>by
         have:=h.row
         rw [hTl] at this
         exact this
        have HT2:=lh HT1
        have HTl:=lh hTl
        clear HT1 hTl
        obtain ⟨ii,hi1,hz0,hz1,hz2⟩:=info_parts Tryz.infoLd
        go_upto_region 9 with (first | (go_at_call 36;refine HNU.out.mono ?_;rintro e w9 ⟨rfl,hb9⟩;have HK9:=lh (HKK.out w9 hb9);clear hb9) | (at_builtin;refine wpList_pushC rfl _ _ 96 99 rfl ii _ 3 32 Tryz.underlying96 hi1 hz0 hz1 hz2 rfl (by decide) _ 1 _ T.length _ rfl (hrow.out _ _ HK9.out.1) [.int .i64 (L:Int),.int .i64 (H:Int),.string (encP (xt,yt))] rfl (one_of rfl) rfl (by omega) (by omega) ?_;intro g6 cp6 w10 hr6 hs6;obtain ⟨hm1,y1,y2⟩:=HPU.out w9 w10 g6 cp6 HK9.out.1 HK9.out.2 hr6 hs6;have HM6:=lh hm1;clear hm1 hr6 hs6))
        by_cases hh:(xh:Int)≤(yh:Int)
        ·have HT3:Hid (T++[(⟨L,H,(xt,yt)⟩:Au.Trail (Nat × Nat))]++Au.cross (X.drop (i+1)) (Y.drop k)=Au.cross X Y):=by have h:=HT2.out;rw [if_pos hh] at h;exact h
         clear HT2
         go_wp2_with fail
         go_roundg (X.length+Y.length-(i+1)-k)
         case rel=>exact ⟨i+1,k,_,T++[(⟨L,H,(xt,yt)⟩:Au.Trail (Nat × Nat))],by omega,by omega,rfl,by go_num,rfl,by rw [hTl2];omega,HT3,HM6⟩
         case measure=>omega
        ·have HT3:Hid (T++[(⟨L,H,(xt,yt)⟩:Au.Trail (Nat × Nat))]++Au.cross (X.drop i) (Y.drop (k+1))=Au.cross X Y):=by have h:=HT2.out;rw [if_neg hh] at h;exact h
         clear HT2
         go_wp2_with fail
         go_roundg (X.length+Y.length-i-(k+1))
         case rel=>exact ⟨i,k+1,_,T++[(⟨L,H,(xt,yt)⟩:Au.Trail (Nat × Nat))],by omega,by omega,rfl,rfl,by go_num,by rw [hTl2];omega,HT3,HM6⟩
         case measure=>omega
       ·rw [if_neg hl,List.append_nil] at HT1
        have HT2:=lh HT1
        clear HT1
        by_cases hh:(xh:Int)≤(yh:Int)
        ·have HT3:Hid (T++Au.cross (X.drop (i+1)) (Y.drop k)=Au.cross X Y):=by have h:=HT2.out;rw [if_pos hh] at h;exact h
         clear HT2
         go_wp2_with fail
         go_roundg (X.length+Y.length-(i+1)-k)
         case rel=>exact ⟨i+1,k,_,T,by omega,by omega,rfl,by go_num,rfl,by omega,HT3,hK⟩
         case measure=>omega
        ·have HT3:Hid (T++Au.cross (X.drop i) (Y.drop (k+1))=Au.cross X Y):=by have h:=HT2.out;rw [if_neg hh] at h;exact h
         clear HT2
         go_wp2_with fail
         go_roundg (X.length+Y.length-i-(k+1))
         case rel=>exact ⟨i,k+1,_,T,by omega,by omega,rfl,rfl,by go_num,by omega,HT3,hK⟩
         case measure=>omega
    ·have k1:(i:Int)<(X.length:Int):=by omega
     have k2:¬(k:Int)<(Y.length:Int):=by omega
     have hfin:Au.cross X Y=T:=by
      have:=hTX.out
      rw [show Y.drop k=[] from List.drop_eq_nil_of_le (by omega),Au.cross_nil',List.append_nil] at this
      exact this.symm
     have HF:=lh (HEN.out hfin)
     clear hfin
     cases f1
     all_goals
      go_wp2_with fail
      go_ret2
      exact ⟨_,rfl,HF.out,HBR.out⟩
   ·have k1:¬(i:Int)<(X.length:Int):=by omega
    have hfin:Au.cross X Y=T:=by
     have:=hTX.out
     rw [show X.drop i=[] from List.drop_eq_nil_of_le (by omega),Au.cross_nil,List.append_nil] at this
     exact this.symm
    have HF:=lh (HEN.out hfin)
    clear hfin
    cases f1
    all_goals
     go_wp2_with fail
     go_ret2
     exact ⟨_,rfl,HF.out,HBR.out⟩
end
section
open Go.RowKit
theorem Tryz.infoAs:(Tryz.prog.info? 59).map (fun i=>(i.zero,i.size,i.bytes))=some (some (.slice none 0 0),1,24):=by kernel_rfl
theorem run_make_rows (n:Nat) (hn:n*24≤281474976710656):∀w,(Instr.makeSlice 105 (.int .i64 0) (.int .i64 (n:Int))).run Tryz.prog w=.ok (.slice (some ⟨w.heap.size,0,none⟩) 0 n) (w.alloc (.cells (madeCells #[.slice none 0 0] n) 59)):=by
 intro w
 obtain ⟨i,hi,hz0,hz1,hz2⟩:=info_parts Tryz.infoAs
 have hr:=run_make (P:=Tryz.prog) w 105 59 i (.slice none 0 0) Tryz.underlying105 hi hz0 .i64 .i64 0 (n:Int) (by omega) (by omega) (by rw [hz2];omega) (by omega)
 simp only [Int.toNat_natCast,hz1,Nat.mul_one] at hr
 exact hr
structure Rw (F:Nat→Prop) (w0 w:World) (sg m:Nat) (f:Nat→Int) (κ:Nat→Nat) (v:Value) (X:List Value) (L:List (List Au.Arc)):Prop where
 row:RowC κ 1 w 59 1 v X.length X
 len:X.length=L.length
 each:∀j (h:j<X.length) (h2:j<L.length),ArcS F w0 X[j] L[j]
 below:Below w0.heap.size w0 w
 set:RowI w sg m f
 col:κ sg=2
 lo:LoB κ w w0.heap.size
theorem Rw.start (F:Nat→Prop) (w0 w:World) (sg m:Nat) (f:Nat→Int) (hs:RowI w sg m f) (hb:Below w0.heap.size w0 w) (hg:w0.heap.size≤sg) (hm:m≤1099511627776):Rw F w0 (w.alloc (.cells (madeCells #[.slice none 0 0] m) 59)) sg m f (fun k=>if k=sg then 2 else if k=w.heap.size then 1 else 0) (.slice (some ⟨w.heap.size,0,none⟩) 0 m) [] []:=by
 have hl:sg<w.heap.size:=World.rowIs.lt hs
 refine ⟨⟨⟨rfl,.inr ⟨w.heap.size,m,madeCells #[.slice none 0 0] m,rfl,Nat.zero_le _,Go.Deep.blk_alloc_new _ _,Nat.zero_le _,?_,by simp [madeCells],rfl⟩⟩,fun b hb=>?_⟩,rfl,fun j h _=>by simp at h,hb.alloc hb.size _,World.rowIs.alloc hs _,if_pos rfl,fun k _ hc=>?_⟩
 ·unfold maxLen;omega
 ·have:b=w.heap.size:=by simpa [Value.ownBlock] using hb.symm
  rw [this,if_neg (by omega),if_pos rfl]
 ·have:=hb.size
  split at hc
  ·omega
  ·split at hc <;> omega
theorem Rw.push {F:Nat→Prop} {w0 w w':World} {sg m g cp:Nat} {f:Nat→Int} {κ:Nat→Nat} {v va:Value} {X:List Value} {L:List (List Au.Arc)} {l:List Au.Arc} (h:Rw F w0 w sg m f κ v X L) (ha:ArcS F w0 va l)
  (hr:RowC (paint κ w.heap.size 1) 1 w' 59 1 (.slice (some ⟨g,0,none⟩) (X.length+1) cp) (X.length+1) (X++[va])) (hs:Step κ 1 w w' (paint κ w.heap.size 1)):Rw F w0 w' sg m f (paint κ w.heap.size 1) (.slice (some ⟨g,0,none⟩) (X.length+1) cp) (X++[va]) (L++[l]):=by
 have hl:=h.len
 have hsl:sg<w.heap.size:=World.rowIs.lt h.set
 refine ⟨?_,by simp [hl],fun j hj hj2=>?_,hs.below h.lo (by decide) h.below h.below.size,World.rowIs.of_block h.set (hs.block sg hsl (by rw [h.col];decide)),by rw [hs.col sg hsl,h.col],h.lo.step hs h.below.size⟩
 ·rw [List.length_append]
  exact hr
 ·by_cases e:j<X.length
  ·rw [List.getElem_append_left e,List.getElem_append_left (by omega)]
   exact h.each j e (by omega)
  ·have e':j=X.length:=by simp at hj;omega
   subst e'
   simp only [List.getElem_append_right (Nat.le_refl _),Nat.sub_self,List.getElem_cons_zero]
   have:(L++[l])[X.length]=l:=by simp only [hl,List.getElem_append_right (Nat.le_refl _),Nat.sub_self,List.getElem_cons_zero]
   rw [this]
   exact ha
theorem Rw.rows {F:Nat→Prop} {w0 w:World} {sg m:Nat} {f:Nat→Int} {κ:Nat→Nat} {v:Value} {X:List Value} {L:List (List Au.Arc)} (h:Rw F w0 w sg m f κ v X L):RowsS (fun g=>F g∨w0.heap.size≤g) w v L:=by
 obtain ⟨a,cap,h1,h2,h3,h4⟩:=h.row.form
 have hl:=h.len
 rw [hl] at h1 h2
 refine ⟨a,cap,h1,h2,h3,fun h0=>?_⟩
 obtain ⟨g,h5,h6,h7,_,h8⟩:=h4 (by omega)
 refine ⟨g,0,h5,h6,.inr (h.lo g h6 (by rw [h7];decide)),fun j hj=>?_⟩
 have e:=h.each j (by omega) hj
 refine ⟨X[j]'(by omega),?_,(e.below h.below).wide fun g _ hg=>.inl hg⟩
 rw [Nat.zero_add]
 exact h8 j _ (List.getElem?_eq_getElem (by omega))
theorem StrS.wide {F G:Nat→Prop} {w:World} {v:Value} {L:List Au.Strch} (h:StrS F w v L) (hm:∀g,g<w.heap.size→F g→G g):StrS G w v L:=by
 obtain ⟨a,cap,h1,h2,h3,h4⟩:=h
 refine ⟨a,cap,h1,h2,h3,fun h0=>?_⟩
 obtain ⟨g,o,h5,h6,h7,h8⟩:=h4 h0
 refine ⟨g,o,h5,h6,hm g h6 h7,fun j hj=>?_⟩
 obtain ⟨b1,b2,va,a2,a3⟩:=h8 j hj
 exact ⟨b1,b2,va,a2,a3.wide hm⟩
structure Lk (w5 w:World) (bi n:Nat) (κ:Nat→Nat) (v:Value) (T:List (Au.Trail ByteArray)):Prop where
 row:RowC κ 1 w 99 3 v T.length (ldsV T)
 kept:KeptF (fun b=>b=bi) w5 w
 lo:∀k,k<w5.heap.size→κ k≠1
 brow:w.rowIs bi 4 n (fun _=>.bool false)
theorem Lk.text {w5 w w':World} {bi n:Nat} {κ:Nat→Nat} {v:Value} {T:List (Au.Trail ByteArray)} (h:Lk w5 w bi n κ v T) (hbi:bi<w5.heap.size) (hk:KeptF (fun b=>b=bi) w w') (hb:w'.rowIs bi 4 n (fun _=>.bool false)):Lk w5 w' bi n κ v T:=
 ⟨⟨ownsRow_keep h.row.own fun k hk'=>hk.block k (h.row.lt k hk').1 fun e=>h.lo bi hbi (by rw [←e];exact (h.row.lt k hk').2),h.row.col⟩,h.kept.trans hk,h.lo,hb⟩
theorem Lk.push {w5 w w':World} {bi n g cp:Nat} {κ:Nat→Nat} {v:Value} {T:List (Au.Trail ByteArray)} {x:Au.Trail ByteArray} (h:Lk w5 w bi n κ v T) (hbi:bi<w5.heap.size)
  (hr:RowC (paint κ w.heap.size 1) 1 w' 99 3 (.slice (some ⟨g,0,none⟩) (T.length+1) cp) (T.length+1) (ldsV T++[.int .i64 (x.lo:Int),.int .i64 (x.hi:Int),.string x.to])) (hs:Step κ 1 w w' (paint κ w.heap.size 1)):Lk w5 w' bi n (paint κ w.heap.size 1) (.slice (some ⟨g,0,none⟩) (T.length+1) cp) (T++[x]):=by
 refine ⟨?_,⟨hs.os.trans h.kept.os,hs.tape.trans h.kept.tape,hs.output.trans h.kept.output,Nat.le_trans h.kept.size hs.size,fun b hb hbi2=>(hs.block b (Nat.lt_of_lt_of_le hb h.kept.size) (h.lo b hb)).trans (h.kept.block b hb hbi2)⟩,fun k hk=>?_,h.brow.of_block (hs.block bi h.brow.lt (h.lo bi hbi))⟩
 ·rw [←ldsV_snoc,List.length_append]
  exact hr
 ·rw [paint_old _ _ _ _ (Nat.lt_of_lt_of_le hk h.kept.size)]
  exact h.lo k hk
theorem Lk.alloc {w5 w:World} {bi n:Nat} {κ:Nat→Nat} {v:Value} {T:List (Au.Trail ByteArray)} (h:Lk w5 w bi n κ v T) (hbi:bi<w5.heap.size) (o:Obj):Lk w5 (w.alloc o) bi n κ v T:=
 h.text hbi (KeptF.of_below ((Below.refl _ _).alloc (Nat.le_refl _) _)) (h.brow.alloc _)
theorem Lk.drew {w5 w:World} {bi n:Nat} {κ:Nat→Nat} {v:Value} {T:List (Au.Trail ByteArray)} (h:Lk w5 w bi n κ v T) (hbi:bi<w5.heap.size):Lk w5 w.drew bi n κ v T:=
 h.text hbi (KeptF.drew (KeptF.refl _ _)) h.brow.drew
noncomputable def ldOf (d:List Au.Lo) (g:Au.Strch):Au.Trail ByteArray:=⟨g.lo,g.hi,encS (Au.toSet d g.to)⟩
theorem nat_back {l:List Int} (h:∀x∈l,0≤x):(l.map Int.toNat).map (fun (i:Nat)=>(i:Int))=l:=by
 induction l with
 | nil=>rfl
 | cons x r ih=>
  rw [List.map_cons,List.map_cons,ih fun y hy=>h y (List.mem_cons_of_mem _ hy)]
  have:=h x (List.mem_cons_self ..)
  congr 1
  omega
theorem look_any (w:World) (p bi n:Nat) (vst:Value) (d:List Au.Lo) (S:List Bool) (hdn:d.length=n) (hp:w.heap[p]?=some (.cells #[vst,.slice (some ⟨bi,0,none⟩) n n] 184 (0,0))) (hb:w.rowIs bi 4 n (fun _=>.bool false))
  (hst:LoS (fun g=>g≠bi) w vst d) (hmay:Au.May d) (hS:S.length=n) (hn:n≤1073741824) (hbig:(Au.rowsOf d S).flatten.length≤1099511627776):
  Calls Tryz.prog 104 #[.pointer (some ⟨p,0,none⟩),.string (encS S)] w fun e w'=>∃v Z,e=.returned (.tuple #[.bool (Au.ends d S),v])∧Au.Cut (Au.rowsOf d S).flatten 0 Z∧LdsS (fun g=>w.heap.size≤g) w' v (Z.map (ldOf d))∧KeptF (fun b=>b=bi) w w'∧w'.rowIs bi 4 n (fun _=>.bool false):=by
 have hpb:p≠bi:=fun e=>by
  obtain ⟨c,h1,_⟩:=hb
  rw [←e,hp] at h1
  cases h1
 have lp:p<w.heap.size:=(Array.getElem?_eq_some_iff.1 hp).1
 have lb:bi<w.heap.size:=hb.lt
 obtain ⟨xs,hxs⟩:∃xs,xs=(Au.idx S).map fun (i:Nat)=>(i:Int):=⟨_,rfl⟩
 have hml:(Au.idx S).length≤n:=by rw [←hS];exact Nat.le_trans (List.length_filter_le ..) (by simp)
 obtain ⟨m,hm⟩:∃m,m=(Au.idx S).length:=⟨_,rfl⟩
 have hxl:xs.length=m:=by rw [hxs,List.length_map,hm]
 have hm2:m≤1073741824:=by omega
 have hwf:Wf xs:=by rw [hxs];exact nat_wf fun x hx=>by have:=Au.idx_lt S x hx;omega
 have HNO:=lh (numbersOf_any w (dl 0 xs) (dl_wf _ _) (by rw [dl_length];omega))
 have henc:encS S=encI (dl 0 xs):=by rw [hxs];rfl
 have HSU:Hid (∀W v,NumS (fun g=>w.heap.size≤g) W v (dl 0 xs)→Calls Tryz.prog 123 #[v] W fun e w'=>e=.returned (.slice (some ⟨W.heap.size,0,none⟩) m m)∧RowI w' W.heap.size m (fun j=>xs.getD j 0)∧Below W.heap.size W w'):=fun W v h=>by
  have:=sums_any W v (dl 0 xs) _ h (by rw [dl_length];omega)
  unfold NewI at this
  rw [sm_dl _ _ hwf,hxl] at this
  exact this
 have hmk:=run_make_rows m (by omega)
 have HSTR:Hid (∀W v,RowsS (fun g=>g≠bi∨w.heap.size≤g) W v (Au.rowsOf d S)→Calls Tryz.prog 108 #[v] W fun e w'=>∃u Z,e=.returned u∧Au.Cut (Au.rowsOf d S).flatten 0 Z∧StrS (fun g=>W.heap.size≤g) w' u Z∧Below W.heap.size W w'):=fun W v h=>stretches_any _ W v _ h (Au.rows_byte hmay S) hbig
 have HHI:=lh (fun c=>Au.hits_in hmay S c)
 have HTX:Hid (∀W vt tz,KeptF (fun b=>b=bi) w W→W.rowIs bi 4 n (fun _=>.bool false)→NumS (fun g=>g≠bi) W vt tz→(∀x∈tz,0≤x∧x<d.length)→tz≠[]→Calls Tryz.prog 103 #[.pointer (some ⟨p,0,none⟩),vt] W fun e w'=>e=.returned (.string (encS (Au.toSet d tz)))∧KeptF (fun b=>b=bi) W w'∧w'.rowIs bi 4 n (fun _=>.bool false)):=fun W vt tz hk hr hnu hto h0=>by
  have h:=textOf_any W p bi n vst d vt (tz.map Int.toNat) hdn ((hk.block p lp hpb).trans hp) hr (hst.keep hk.size fun g hg hl=>hk.block g hl hg) (by rw [nat_back fun x hx=>(hto x hx).1];exact hnu) (fun x hx=>by
   obtain ⟨y,hy,rfl⟩:=List.mem_map.1 hx
   have:=hto y hy
   omega) (fun e=>h0 (by simpa using e)) hmay hn
  unfold Au.toSet
  rw [hdn]
  exact h
 have HLO:=lh hst
 have HP:=lh hp
 have HDN:=lh hdn
 have HMM:=lh hm
 have HIL:Hid (∀i∈Au.idx S,i<n):=fun i hi=>by rw [←hS];exact Au.idx_lt S i hi
 have HXG:Hid (∀k (h:k<(Au.idx S).length),xs.getD k 0=((Au.idx S)[k]:Int)):=fun k h=>by rw [hxs];simp [List.getD,h]
 have HEN:=lh (Au.ends_idx d S)
 have HPB:=lh hpb
 have HB0:=lh hb
 rw [henc]
 clear henc hxs hwf hst hp hb hdn hmay hbig hS hml hpb hm hxl
 go_enter Tryz.func104,Tryz.ntmps104
 go_wp2_with (first | (go_at_call 57;refine HNO.out.mono ?_;rintro e w1 ⟨v1,rfl,h1,hb1⟩;have HS1:=lh (HSU.out w1 v1 h1);have HB1:=lh hb1;clear h1 hb1) | (go_at_call 123;refine HS1.out.mono ?_;rintro e w2 ⟨rfl,h2,hb2⟩;have HB2:Hid (Below w.heap.size w w2):=chain HB1.out hb2;have HR2:Hid (Rw (fun g=>g≠bi) w _ w1.heap.size m _ _ (.slice (some ⟨w2.heap.size,0,none⟩) 0 m) [] []):=Rw.start (fun g=>g≠bi) w w2 w1.heap.size m _ h2 HB2.out HB1.out.size (by omega);clear hb2 h2))
 go_loopg [4,7,20] m (fun gg v4 v7 v20 wx=>∃(k:Nat) (X:List Value) (κ:Nat→Nat),k≤m∧gg=m-k∧v4=.bool (((Au.idx S).take k).any (Au.finOf d))∧v20=.int .i64 k∧Hid (X.length=k)∧Hid (Rw (fun g=>g≠bi) w wx w1.heap.size m (fun j=>xs.getD j 0) κ v7 X ((Au.rowsOf d S).take k)))
 case atStart=>exact ⟨0,[],_,Nat.zero_le _,rfl,rfl,rfl,rfl,HR2⟩
 case round=>
  clear HR2 HB2 hmk HS1
  obtain ⟨k,X,κ,hk,rfl,rfl,rfl,hXk,hR⟩:=hrel
  by_cases hkm:k<m
  ·have j1:(k:Int)<(m:Int):=by omega
   have hki:k<(Au.idx S).length:=by rw [←HMM.out];exact hkm
   have e0:wr.cell? ⟨w1.heap.size,k,none⟩=some (.int .i64 ((Au.idx S)[k]:Int)):=(World.rowIs.cell hR.out.set hkm).trans (congrArg (fun x=>some (Value.int .i64 x)) (HXG.out k hki))
   have hin:(Au.idx S)[k]<n:=HIL.out _ (List.getElem_mem hki)
   have hid:(Au.idx S)[k]<d.length:=by rw [HDN.out];exact hin
   have h2:(((Au.idx S)[k]:Nat):Int)<(n:Int):=by omega
   obtain ⟨ad,cd,hvd,hd1,hd2,hd3⟩:=HLO.out
   obtain ⟨gd,od,rfl,hgd,hgdb,hdc⟩:=hd3 (by omega)
   obtain ⟨f1,⟨va,f2,f3⟩,f4⟩:=hdc _ hid
   have hblk:=hR.out.below.block gd hgd
   have g1:=(cell_same (a:=⟨gd,od+(Au.idx S)[k]*3,none⟩) hblk).trans f1
   have g2:=(cell_same (a:=⟨gd,od+(Au.idx S)[k]*3+1,none⟩) hblk).trans f2
   have hp1:=(cell_same (a:=⟨p,0,none⟩) (hR.out.below.block p lp)).trans (show w.cell? ⟨p,0,none⟩=some vst by simp [World.cell?,HP.out])
   have hfin:Hid (Au.finOf d (Au.idx S)[k]=d[(Au.idx S)[k]].fin):=by
    show _=_
    unfold Au.finOf
    rw [List.getElem?_eq_getElem hid]
    rfl
   have hnext:Hid (((Au.idx S).take (k+1)).any (Au.finOf d)=(((Au.idx S).take k).any (Au.finOf d)||d[(Au.idx S)[k]].fin)):=by
    show _=_
    rw [Au.any_take _ _ _ hki,hfin.out]
   have hrow1:Hid ((Au.rowsOf d S).take (k+1)=(Au.rowsOf d S).take k++[d[(Au.idx S)[k]].arcs]):=by
    show _=_
    unfold Au.rowsOf
    rw [←List.map_take,List.take_succ_eq_append_getElem hki,List.map_append,List.map_take]
    simp only [List.map_cons,List.map_nil,Au.rowOf,List.getElem?_eq_getElem hid]
    rfl
   have HA:=lh f3
   obtain ⟨aa,ca,rfl,_,_,_⟩:=f3
   have HPU:=lh (fun g cp w3 h1 h2=>hR.out.push (g:=g) (cp:=cp) (w':=w3) HA.out h1 h2)
   have hrw:=lh hR.out.row
   rw [HDN.out] at hvd
   subst hvd
   rw [hXk.out] at HPU hrw
   have hX1:Hid (∀u:Value,(X++[u]).length=k+1):=fun u=>by rw [List.length_append,hXk.out];rfl
   generalize ((Au.idx S).take k).any (Au.finOf d)=fb at *
   generalize d[(Au.idx S)[k]].fin=fx at *
   generalize (Au.idx S)[k]=x at *
   generalize d[x].arcs=la at *
   clear hR f1 f2 hdc hd3 hfin hki hblk
   obtain ⟨ii,hi,hz0,hz1,hz2⟩:=info_parts Tryz.infoAs
   cases fb
   all_goals
    go_wp2_with (at_builtin;refine wpList_pushC rfl _ _ 105 59 rfl ii _ 1 24 Tryz.underlying105 hi hz0 hz1 hz2 rfl (by decide) κ 1 _ k X rfl hrw.out [.slice aa la.length ca] rfl (one_of rfl) rfl (by omega) (by omega) ?_;intro g3 cp3 w4 hr4 hs4;have HQ:=lh (HPU.out g3 cp3 w4 hr4 hs4);clear hr4 hs4)
    go_roundg (m-(k+1))
    case rel=>exact ⟨k+1,_,_,by omega,rfl,by rw [hnext.out];rfl,by go_num,hX1.out _,by rw [hrow1.out];exact HQ.out⟩
    case measure=>omega
  ·obtain rfl:k=m:=by omega
   have hfull:(Au.idx S).take k=Au.idx S:=List.take_of_length_le (by rw [←HMM.out];exact Nat.le_refl _)
   have hfull2:(Au.rowsOf d S).take k=Au.rowsOf d S:=List.take_of_length_le (by unfold Au.rowsOf;rw [List.length_map,←HMM.out];exact Nat.le_refl _)
   rw [hfull2] at hR
   rw [hfull,←HEN.out]
   have HS5:=lh (HSTR.out wr _ hR.out.rows)
   have HBr:=lh hR.out.below
   obtain ⟨asl,csl,hvs,_⟩:=hR.out.row.form
   subst hvs
   rw [hXk.out] at HS5 ⊢
   clear hR hfull hfull2
   go_wp2_with (go_at_call 108;refine HS5.out.mono ?_;rintro e w5 ⟨u,Z,rfl,hcut,hstr,hb5⟩;have HCUT:=lh hcut;have HB5:Hid (Below w.heap.size w w5):=chain HBr.out hb5;have HSL:Hid (StrS (fun g=>g≠bi) w5 u Z):=hstr.wide (fun g _ hg e=>by have:=HBr.out.size;omega);clear hcut hstr hb5)
   have hZl:Z.length≤256:=by have:=Au.Cut.few (Nat.zero_le _) HCUT.out;omega
   have lb5:bi<w5.heap.size:=Nat.lt_of_lt_of_le lb HB5.out.size
   obtain ⟨az,cz,rfl,hz1,hz2,hz3⟩:=HSL.out
   obtain ⟨z,hz⟩:∃z,Z.length=z:=⟨_,rfl⟩
   rw [hz] at hZl hz1
   simp only [hz]
   have HZ:=lh hz
   have HL0:Hid (Lk w5 w5 bi n (fun _=>0) (.slice none 0 0) []):=⟨RowC.nil _ _ _ _ _,KeptF.refl _ _,fun _ _=>by decide,HB0.out.of_block (HB5.out.block bi lb)⟩
   have HCE:=lh hz3
   clear hz hz3
   go_wp2_with fail
   go_loopg [5,50] z (fun gg v5 v50 wx=>∃(k:Nat) (κ:Nat→Nat),k≤z∧gg=z-k∧v50=.int .i64 k∧Hid (Lk w5 wx bi n κ v5 ((Z.take k).map (ldOf d))))
   case atStart=>exact ⟨0,_,Nat.zero_le _,rfl,rfl,HL0⟩
   case round=>
    clear HL0
    obtain ⟨k,κ,hk,rfl,rfl,hL⟩:=hrel
    by_cases hkm:k<z
    ·have j1:(k:Int)<(z:Int):=by omega
     have hki:k<Z.length:=by rw [HZ.out];exact hkm
     obtain ⟨gz,oz,rfl,hgz,hgb,hcz⟩:=HCE.out (by omega)
     obtain ⟨c1,c2,vt,c3,c4⟩:=hcz k hki
     have hblk:=hL.out.kept.block gz hgz hgb
     have e1:=(cell_same (a:=⟨gz,oz+k*3,none⟩) hblk).trans c1
     have e2:=(cell_same (a:=⟨gz,oz+k*3+1,none⟩) hblk).trans c2
     have e3:=(cell_same (a:=⟨gz,oz+k*3+2,none⟩) hblk).trans c3
     obtain ⟨_,_,q3,q4,q5⟩:=HCUT.out.each _ (List.getElem_mem hki)
     have hnx:Hid ((Z.take (k+1)).map (ldOf d)=(Z.take k).map (ldOf d)++[ldOf d Z[k]]):=by
      show _=_
      rw [List.take_succ_eq_append_getElem hki,List.map_append]
      rfl
     have hTl:((Z.take k).map (ldOf d)).length=k:=by simp;omega
     have hL1:=lh ((hL.out.alloc lb5 (.cells #[.int .i64 (Z[k].lo:Int),.int .i64 (Z[k].hi:Int),vt] 165)).drew lb5)
     have HT:=lh (HTX.out _ vt Z[k].to ((KeptF.of_below (HB5.out)).trans hL1.out.kept) hL1.out.brow ((c4.keep hL1.out.kept.size fun g hg hl=>hL1.out.kept.block g hl hg)) (fun x hx=>HHI.out Z[k].lo x (by rw [q5 _ (Nat.le_refl _) (by omega)];exact hx)) q4)
     have hld:Hid (ldOf d Z[k]=⟨Z[k].lo,Z[k].hi,encS (Au.toSet d Z[k].to)⟩):=rfl
     have HLS:=lh (fun w' h1 h2=>hL1.out.text (w':=w') lb5 h1 h2)
     obtain ⟨av,vl,cv,hvt⟩:∃av vl cv,vt=.slice av vl cv:=by obtain ⟨a,c,h,_⟩:=c4;exact ⟨_,_,_,h⟩
     subst hvt
     clear c4
     have lbr:bi<wr.heap.size:=Nat.lt_of_lt_of_le lb5 hL.out.kept.size
     clear hL hcz c1 c2 c3 hblk q5 q4
     generalize ldOf d Z[k]=ld at *
     generalize encS (Au.toSet d Z[k].to)=txt at *
     generalize (Z.take k).map (ldOf d)=T at *
     generalize Z[k].lo=zlo at *
     generalize Z[k].hi=zhi at *
     have d0:=cell_at wr [.int .i64 (zlo:Int),.int .i64 (zhi:Int),.slice av vl cv] 165 0 _ rfl
     have d1:=cell_at wr [.int .i64 (zlo:Int),.int .i64 (zhi:Int),.slice av vl cv] 165 1 _ rfl
     have d2:=cell_at wr [.int .i64 (zlo:Int),.int .i64 (zhi:Int),.slice av vl cv] 165 2 _ rfl
     have hW:wr.heap.size<(wr.alloc (.cells #[.int .i64 (zlo:Int),.int .i64 (zhi:Int),.slice av vl cv] 165)).heap.size:=by simp
     have hqb:wr.heap.size≠bi:=by omega
     go_wp2_with fail
     generalize wr.alloc (.cells #[.int .i64 (zlo:Int),.int .i64 (zhi:Int),.slice av vl cv] 165)=W at *
     generalize wr.heap.size=q at *
     have d0:W.drew.cell? ⟨q,0,none⟩=_:=d0
     have d1:W.drew.cell? ⟨q,1,none⟩=_:=d1
     have d2:W.drew.cell? ⟨q,2,none⟩=_:=d2
     have hW:q<W.drew.heap.size:=hW
     have HDC:Hid (∀w',KeptF (fun b=>b=bi) W.drew w'→w'.cell? ⟨q,0,none⟩=some (.int .i64 (zlo:Int))∧w'.cell? ⟨q,1,none⟩=some (.int .i64 (zhi:Int))):=fun w' h=>⟨(cell_same (a:=⟨q,0,none⟩) (h.block q hW hqb)).trans d0,(cell_same (a:=⟨q,1,none⟩) (h.block q hW hqb)).trans d1⟩
     clear e1 e2 e3
     have HPU:=lh (fun w6 g cp w7 (h:Lk w5 w6 bi n κ u5 T) h1 h2=>h.push (g:=g) (cp:=cp) (w':=w7) (x:=⟨zlo,zhi,txt⟩) lb5 h1 h2)
     have hT1:=lh hTl
     obtain ⟨ii,hi,hz0,hz1,hz2⟩:=info_parts Tryz.infoLd
     clear hTl
     go_region_law ((first | (refine step_pushC rfl _ _ 96 99 (by rfl) ii _ 3 32 Tryz.underlying96 hi hz0 hz1 hz2 rfl (by decide) κ 1 _ T.length (ldsV T) (by rfl) HL6.out.row ((Below.refl _ _).alloc (Nat.le_refl _) _) [.int .i64 (zlo:Int),.int .i64 (zhi:Int),.string txt] rfl (one_of rfl) ⟨w6.heap.size,0,none⟩ (new_cells w6 _ _) (by rfl) (by have:=hT1.out;omega) (by have:=hT1.out;omega) ?_;intro g7 cp7 w7 hr7 hs7;have HQ:=lh (HPU.out w6 g7 cp7 w7 HL6.out hr7 hs7);clear hr7 hs7) | (go_simp;go_wp2_with (go_at_call 103;refine HT.out.mono ?_;rintro e w6 ⟨rfl,hk6,hb6⟩;obtain ⟨x0,x1⟩:=HDC.out w6 hk6;have HL6:=lh (HLS.out w6 hk6 hb6);clear hk6 hb6))))
     all_goals
      go_wp2_with fail
      go_roundg (z-(k+1))
      case rel=>exact ⟨k+1,_,by omega,rfl,by go_num,by rw [hnx.out,hld.out];exact HQ.out⟩
      case measure=>omega
    ·obtain rfl:k=z:=by omega
     have hfz:Z.take k=Z:=List.take_of_length_le (by rw [HZ.out];exact Nat.le_refl _)
     rw [hfz] at hL
     clear HCE hfz
     go_wp2_with fail
     go_ret2
     refine ⟨_,Z,rfl,HCUT.out,hL.out.row.leads _ fun g hg hc=>?_,(KeptF.of_below HB5.out).trans hL.out.kept,hL.out.brow⟩
     have h1:=HB5.out.size
     have h2:=hL.out.lo g
     apply Classical.byContradiction
     intro h3
     exact h2 (by omega) hc
end
section
open Go.RowKit
namespace Au
theorem backRow_len (l:List Arc) (t i:Nat):(backRow l t i).length≤l.length:=by
 unfold backRow
 rw [List.length_map]
 exact List.length_filter_le ..
theorem back_len {d:List St} (hr:∀i (h:i<d.length),Row d.length 256 d[i].arcs) (t:Nat):(back d t).length≤d.length*256:=by
 unfold back
 rw [List.flatMap_def]
 have:=flat_le (L:=(List.range d.length).map fun i=>backRow (arcsOf d i) t i) (m:=256) fun l hl=>by
  obtain ⟨i,_,rfl⟩:=List.mem_map.1 hl
  have h1:=backRow_len (arcsOf d i) t i
  have h2:=row_few (arcsOf_row hr i)
  omega
 simpa using this
theorem row_each {n:Nat} {c:Int} {l:List Arc} (h:Row n c l):∀a∈l,0≤a.lo∧a.lo≤a.hi∧a.hi<c∧0≤a.to∧a.to<n:=fun a ha=>by
 obtain ⟨k,hk,rfl⟩:=List.getElem_of_mem ha
 exact h.1 k hk
theorem back_byte {d:List St} (hr:∀i (h:i<d.length),Row d.length 256 d[i].arcs) (t:Nat):∀a∈back d t,byteArc a:=fun a ha=>by
 unfold back at ha
 obtain ⟨i,_,hb⟩:=List.mem_flatMap.1 ha
 unfold backRow at hb
 obtain ⟨x,hx,rfl⟩:=List.mem_map.1 hb
 have:=row_each (arcsOf_row hr i) x (List.mem_filter.1 hx).1
 unfold byteArc
 dsimp only
 omega
end Au
structure Wr8 (F:Nat→Prop) (w0 w:World) (κ:Nat→Nat) (v:Value) (X:List Value) (L:List (List Au.Arc)):Prop where
 row:RowC κ 1 w 59 1 v X.length X
 len:X.length=L.length
 each:∀j (h:j<X.length) (h2:j<L.length),ArcS F w0 X[j] L[j]
 below:Below w0.heap.size w0 w
 lo:LoB κ w w0.heap.size
theorem Wr8.start (F:Nat→Prop) (w0:World) (m:Nat) (hm:m≤1099511627776):Wr8 F w0 (w0.alloc (.cells (madeCells #[.slice none 0 0] m) 59)) (fun k=>if k=w0.heap.size then 1 else 0) (.slice (some ⟨w0.heap.size,0,none⟩) 0 m) [] []:=by
 refine ⟨⟨⟨rfl,.inr ⟨w0.heap.size,m,_,rfl,Nat.zero_le _,Go.Deep.blk_alloc_new _ _,Nat.zero_le _,by unfold maxLen;omega,?_,by simp⟩⟩,fun b hb=>?_⟩,rfl,fun j h=>by simp at h,(Below.refl _ _).alloc (Nat.le_refl _) _,fun k _ hc=>?_⟩
 ·simp [madeCells]
 ·simp [Value.ownBlock] at hb
  subst hb
  exact if_pos rfl
 ·change (if _ then _ else _)≠0 at hc
  split at hc
  ·omega
  ·exact absurd rfl hc
theorem Wr8.push {F:Nat→Prop} {w0 w w':World} {g cp:Nat} {κ:Nat→Nat} {v va:Value} {X:List Value} {L:List (List Au.Arc)} {l:List Au.Arc} (h:Wr8 F w0 w κ v X L) (ha:ArcS F w0 va l)
  (hr:RowC (paint κ w.heap.size 1) 1 w' 59 1 (.slice (some ⟨g,0,none⟩) (X.length+1) cp) (X.length+1) (X++[va])) (hs:Step κ 1 w w' (paint κ w.heap.size 1)):Wr8 F w0 w' (paint κ w.heap.size 1) (.slice (some ⟨g,0,none⟩) (X.length+1) cp) (X++[va]) (L++[l]):=by
 refine ⟨by rw [List.length_append];exact hr,by simp [h.len],fun j hj hj2=>?_,hs.below h.lo (by decide) h.below h.below.size,h.lo.step hs h.below.size⟩
 by_cases e:j<X.length
 ·rw [List.getElem_append_left e,List.getElem_append_left (by rw [←h.len];exact e)]
  exact h.each j e (by rw [←h.len];exact e)
 ·have e':j=X.length:=by simp at hj;omega
  subst e'
  have:=h.len
  simp only [List.getElem_append_right (Nat.le_refl _),Nat.sub_self,List.getElem_cons_zero]
  simp only [this,List.getElem_append_right (Nat.le_refl _),Nat.sub_self,List.getElem_cons_zero]
  exact ha
theorem Wr8.rows {F:Nat→Prop} {w0 w:World} {κ:Nat→Nat} {v:Value} {X:List Value} {L:List (List Au.Arc)} (h:Wr8 F w0 w κ v X L):RowsS (fun g=>F g∨w0.heap.size≤g) w v L:=by
 obtain ⟨a,cap,h1,h2,h3,h4⟩:=h.row.form
 rw [h.len] at h1 h2 h4
 refine ⟨a,cap,h1,h2,h3,fun h0=>?_⟩
 obtain ⟨g,h5,h6,h7,_,h8⟩:=h4 h0
 refine ⟨g,0,h5,h6,.inr (h.lo g h6 (by rw [h7];decide)),fun j hj=>?_⟩
 have hjX:j<X.length:=by rw [h.len];exact hj
 refine ⟨X[j],by rw [Nat.zero_add];exact h8 j _ (List.getElem?_eq_getElem hjX),?_⟩
 exact ((h.each j hjX hj).below h.below).wide fun g _ hg=>.inl hg
theorem whence_any (d:List Au.St) (w:World) (p:Nat) (κ:Nat→Nat) (C:Au.Cls) (c:Nat) (F:Nat→Prop) (vb:Value) (n:Nat) (hd:d.length=n) (hf:Au.Fits d) (h:ClsM n w p κ C) (hc:c<C.mem.length) (hrow:∀x∈C.row c,x<n) (hnd:(C.row c).Nodup)
  (hb:RowsS F w vb ((List.range n).map (Au.back d))) (hm:C.mem.length≤1099511627776):
  Calls Tryz.prog 86 #[.pointer (some ⟨p,0,none⟩),.int .i64 (c:Int),vb] w fun e w'=>∃u S,e=.returned u∧Au.Cut ((C.row c).flatMap (Au.back d)) 0 S∧StrS (fun g=>w.heap.size≤g) w' u S∧Below w.heap.size w w':=by
 have hn2:n≤20000:=by have:=hf.top;omega
 have hl:(C.row c).length≤n:=by
  have:=hnd.length_le_of_subset (l₂:=List.range n) fun x hx=>List.mem_range.2 (hrow x hx)
  simpa using this
 obtain ⟨X,bo,ba,vm,vw,vq,hS⟩:=h
 obtain ⟨b0,b1,b2,b3,b4,b5⟩:=hS.cells
 have hcX:c<X.length:=by rw [hS.lenX];exact hc
 obtain ⟨am,cm,rfl,_,_,hm4⟩:=hS.mem.form
 obtain ⟨gm,rfl,_,_,_,hmc⟩:=hm4 (by omega)
 obtain ⟨ar,cp,hx,_,_,hr4⟩:=(hS.each _ hcX).form
 have r3:=hmc _ X[c] (List.getElem?_eq_getElem hcX)
 rw [hx] at r3
 have j3:(c:Int)<(X.length:Int):=by omega
 obtain ⟨ln,hln⟩:∃ln,(C.row c).length=ln:=⟨_,rfl⟩
 have HLN:=lh hln
 rw [hln] at r3 hl hr4
 have HR:Hid (∀W,Below w.heap.size w W→0<ln→∃g,ar=some ⟨g,0,none⟩∧∀j (hj:j<(C.row c).length),W.cell? ⟨g,j,none⟩=some (.int .i64 ((C.row c)[j]:Int))):=fun W hW h0=>by
  obtain ⟨g,rfl,hg,_,_,hcc⟩:=hr4 h0
  exact ⟨g,rfl,fun j hj=>(cell_same (hW.block g hg)).trans (hcc j _ (by simp [natsV,List.getElem?_eq_getElem hj]))⟩
 have hmk:=run_make_rows ln (by omega)
 obtain ⟨ab,cb,rfl,_,_,hbc⟩:=hb
 rw [List.length_map,List.length_range]
 have HB:Hid (∀W,Below w.heap.size w W→0<n→∃g o,ab=some ⟨g,o,none⟩∧∀t,t<n→∃va,W.cell? ⟨g,o+t,none⟩=some va∧ArcS F w va (Au.back d t)):=fun W hW h0=>by
  obtain ⟨g,o,rfl,hg,_,hcc⟩:=hbc (by simpa using h0)
  refine ⟨g,o,rfl,fun t ht=>?_⟩
  obtain ⟨va,q1,q2⟩:=hcc t (by simpa using ht)
  rw [List.getElem_map,List.getElem_range] at q2
  exact ⟨va,(cell_same (hW.block g hg)).trans q1,q2⟩
 have HSTR:Hid (∀W v,RowsS (fun g=>F g∨w.heap.size≤g) W v ((C.row c).map (Au.back d))→Calls Tryz.prog 108 #[v] W fun e w'=>∃u Z,e=.returned u∧Au.Cut ((C.row c).flatMap (Au.back d)) 0 Z∧StrS (fun g=>W.heap.size≤g) w' u Z∧Below W.heap.size W w'):=fun W v h=>by
  have:=stretches_any _ W v _ h (fun l hl a ha=>by
   obtain ⟨t,_,rfl⟩:=List.mem_map.1 hl
   exact Au.back_byte hf.row t a ha) (by
   have:=Au.flat_le (L:=(C.row c).map (Au.back d)) (m:=d.length*256) fun l hl=>by
    obtain ⟨t,_,rfl⟩:=List.mem_map.1 hl
    exact Au.back_len hf.row t
   rw [List.length_map,hln,hd] at this
   have h2:ln*(n*256)≤20000*(20000*256):=Nat.mul_le_mul (by omega) (Nat.mul_le_mul_right _ hn2)
   omega)
  rw [List.flatMap_def]
  exact this
 have HW0:Hid (Wr8 F w (w.alloc (.cells (madeCells #[.slice none 0 0] ln) 59)) (fun k=>if k=w.heap.size then 1 else 0) (.slice (some ⟨w.heap.size,0,none⟩) 0 ln) [] ((C.row c).map (Au.back d) |>.take 0)):=by
  rw [List.take_zero]
  exact Wr8.start F w ln (by omega)
 have hbA:Below w.heap.size w (w.alloc (.cells (madeCells #[.slice none 0 0] ln) 59)):=(Below.refl _ _).alloc (Nat.le_refl _) _
 have d2:=(cell_same (a:=⟨p,2,none⟩) (hbA.block p hS.plt)).trans b2
 have d3:=(cell_same (a:=⟨gm,c,none⟩) (hbA.block gm (by assumption))).trans r3
 clear hbA hmc hm4 hx hS hr4 hbc b0 b1 b3 b4 b5 hc hm hnd hln
 go_enter Tryz.func86,Tryz.ntmps86
 go_wp2_with fail
 generalize w.alloc (.cells (madeCells #[.slice none 0 0] ln) 59)=w1 at *
 go_loopg [7,27] ln (fun gg v7 v27 wx=>∃(k:Nat) (X:List Value) (κ:Nat→Nat),k≤ln∧gg=ln-k∧v27=.int .i64 k∧Hid (X.length=k)∧Hid (Wr8 F w wx κ v7 X (((C.row c).map (Au.back d)).take k)))
 case atStart=>exact ⟨0,[],_,Nat.zero_le _,rfl,rfl,rfl,HW0⟩
 case round=>
  clear HW0
  obtain ⟨k,X,κ,hk,rfl,rfl,hXk,hR⟩:=hrel
  by_cases hkn:k<ln
  ·have j1:(k:Int)<(ln:Int):=by omega
   have hkl:k<(C.row c).length:=by rw [HLN.out];exact hkn
   obtain ⟨gr,rfl,hrc⟩:=HR.out wr hR.out.below (by omega)
   have r1:=hrc k hkl
   have hxn:=hrow _ (List.getElem_mem hkl)
   obtain ⟨gb,ob,rfl,hbc⟩:=HB.out wr hR.out.below (by omega)
   obtain ⟨va,r2,hA⟩:=hbc _ hxn
   have HA:=lh hA
   have hnx:Hid (((C.row c).map (Au.back d)).take (k+1)=((C.row c).map (Au.back d)).take k++[Au.back d (C.row c)[k]]):=by
    show _=_
    rw [List.take_succ_eq_append_getElem (by rw [List.length_map];exact hkl),List.getElem_map]
   obtain ⟨aa,ca,rfl,_⟩:=hA
   have HPU:=lh (fun g cp w3 h1 h2=>hR.out.push (g:=g) (cp:=cp) (w':=w3) HA.out h1 h2)
   have hrw:=lh hR.out.row
   rw [hXk.out] at HPU hrw
   have hX1:Hid (∀u:Value,(X++[u]).length=k+1):=fun u=>by rw [List.length_append,hXk.out];rfl
   have j2:((C.row c)[k]:Int)<(n:Int):=by omega
   generalize (C.row c)[k]=x at *
   generalize Au.back d x=la at *
   clear hR hrc hbc
   obtain ⟨ii,hi,hz0,hz1,hz2⟩:=info_parts Tryz.infoAs
   go_wp2_with (at_builtin;refine wpList_pushC rfl _ _ 105 59 rfl ii _ 1 24 Tryz.underlying105 hi hz0 hz1 hz2 rfl (by decide) κ 1 _ k X rfl hrw.out [.slice aa la.length ca] rfl (one_of rfl) rfl (by omega) (by omega) ?_;intro g3 cp3 w4 hr4 hs4;have HQ:=lh (HPU.out g3 cp3 w4 hr4 hs4);clear hr4 hs4)
   go_roundg (ln-(k+1))
   case rel=>exact ⟨k+1,_,_,by omega,rfl,by go_num,hX1.out _,by rw [hnx.out];exact HQ.out⟩
   case measure=>omega
  ·obtain rfl:k=ln:=by omega
   have hfull:((C.row c).map (Au.back d)).take k=(C.row c).map (Au.back d):=List.take_of_length_le (by rw [List.length_map,HLN.out];exact Nat.le_refl _)
   rw [hfull] at hR
   have HS5:=lh (HSTR.out wr _ hR.out.rows)
   have HBr:=lh hR.out.below
   obtain ⟨asl,csl,hvs,_⟩:=hR.out.row.form
   subst hvs
   rw [hXk.out] at HS5 ⊢
   clear hR hfull
   go_wp2_with (go_at_call 108;refine HS5.out.mono ?_;rintro e w5 ⟨u,Z,rfl,hcut,hstr,hb5⟩;have HE:=lh (And.intro hcut (And.intro (hstr.wide (G:=fun g=>w.heap.size≤g) fun g _ hg=>by have:=HBr.out.size;omega) (chain HBr.out hb5)));clear hcut hstr hb5)
   go_ret
   exact ⟨_,Z,rfl,HE.out⟩
end
section
open Go.RowKit
namespace Au
def inS (S:List Strch) (k a:Nat):Prop:=∃j,k≤j∧∃h:j<S.length,S[j].lo≤a∧a≤S[j].hi
def toL (g:Strch):List Nat:=g.to.map Int.toNat
structure HW (d:List St) (C0:Cls) (c:Nat) (S:List Strch) (k:Nat) (C:Cls):Prop where
 inv:HInv d (fun x=>C0.cls x=(c:Int)) (inS S k) C
 meas:C.wq.length+C0.mem.length+1=C0.wq.length+C.mem.length
theorem cls_some (C:Cls) (x:Option Nat) (c:Nat):C.cls x=(c:Int)↔∃t,x=some t∧C.of t=(c:Int):=by
 cases x with
 | none=>
  constructor
  ·intro h
   change (-1:Int)=_ at h
   omega
  ·rintro ⟨t,h,_⟩
   cases h
 | some t=>exact ⟨fun h=>⟨t,rfl,h⟩,fun ⟨s,e,h⟩=>by cases e;exact h⟩
section
variable {d:List St} {O:Option Nat→Prop} {C0:Cls} {c:Nat} {S:List Strch}
theorem hits_iff (h0:HInv d O (fun _=>False) C0) (b s:Nat) (hs:s<d.length):(s:Int)∈hits ((C0.row c).flatMap (back d)) b↔C0.cls ((ofL d).step s b)=(c:Int):=by
 rw [mem_whence h0.rows,cls_some]
 constructor
 ·rintro ⟨i,e,_,t,ht,hst⟩
  obtain rfl:i=s:=by omega
  exact ⟨t,hst,(h0.ok.mem_row ht).2⟩
 ·rintro ⟨t,hst,hc⟩
  exact ⟨s,rfl,hs,t,h0.ok.row_mem (ofL_in h0.rows hst) hc,hst⟩
theorem HW.start (h0:HInv d O (fun _=>False) C0) {q:List Nat} (hq:C0.wq=q++[c]) (hS:Cut ((C0.row c).flatMap (back d)) 0 S):HW d C0 c S 0 (C0.pop q c):=by
 refine ⟨h0.pop q c hq _ fun a s hs hR e=>?_,?_⟩
 ·have h1:=(hits_iff h0 a s hs).2 e
  obtain ⟨t,hst,_⟩:=(cls_some C0 _ c).1 e
  have ha:a<256:=by
   apply Classical.byContradiction
   intro hn
   rw [ofL_top h0.rows s a (by omega)] at hst
   cases hst
  rw [hS.none a (Nat.zero_le _) ha fun g hg hgg=>?_] at h1
  ·cases h1
  ·obtain ⟨j,hj,rfl⟩:=List.getElem_of_mem hg
   exact hR ⟨j,Nat.zero_le _,hj,hgg⟩
 ·show q.length+C0.mem.length+1=C0.wq.length+C0.mem.length
  rw [hq,List.length_append]
  simp
  omega
theorem HW.list (h0:HInv d O (fun _=>False) C0) (hS:Cut ((C0.row c).flatMap (back d)) 0 S) {k:Nat} {C:Cls} {R:Nat→Prop} (h:HInv d (fun x=>C0.cls x=(c:Int)) R C) (hk:k<S.length):
  (toL S[k]).map (fun (i:Nat)=>(i:Int))=S[k].to∧(toL S[k]).Nodup∧(∀s∈toL S[k],s<d.length∧0≤C.of s)∧(∀s t,s<d.length→t<d.length→Eqv (ofL d) (ofL d) s t→(s∈toL S[k]↔t∈toL S[k])) ∧
  ∀s a,s<d.length→S[k].lo≤a→a≤S[k].hi→(s∈toL S[k]↔C0.cls ((ofL d).step s a)=(c:Int)):=by
 obtain ⟨_,e1,e2,e3,e4⟩:=hS.each _ (List.getElem_mem hk)
 have hto:∀x∈S[k].to,∃i:Nat,x=(i:Int)∧i<d.length∧∃t∈C0.row c,(ofL d).step i S[k].lo=some t:=fun x hx=>by
  rw [←e4 _ (Nat.le_refl _) e1] at hx
  exact (mem_whence h0.rows _ _ x).1 hx
 have hmem:∀s,s∈toL S[k]↔(s:Int)∈S[k].to:=fun s=>by
  unfold toL
  rw [List.mem_map]
  constructor
  ·rintro ⟨x,hx,rfl⟩
   obtain ⟨i,rfl,_⟩:=hto x hx
   rw [Int.toNat_natCast]
   exact hx
  ·intro hx
   exact ⟨_,hx,Int.toNat_natCast s⟩
 have hiff:∀s a,s<d.length→S[k].lo≤a→a≤S[k].hi→(s∈toL S[k]↔C0.cls ((ofL d).step s a)=(c:Int)):=fun s a hs h1 h2=>by
  rw [hmem,←e4 a h1 h2]
  exact hits_iff h0 a s hs
 refine ⟨?_,?_,fun s hs=>?_,fun s t hs ht he=>?_,hiff⟩
 ·unfold toL
  rw [List.map_map]
  conv=>rhs;rw [←List.map_id S[k].to]
  refine List.map_congr_left fun x hx=>?_
  obtain ⟨i,rfl,_⟩:=hto x hx
  simp
 ·have hnd:S[k].to.Nodup:=by
   rw [←e4 _ (Nat.le_refl _) e1]
   exact whence_nodup h0.rows _ (h0.ok.nodup c) _
  unfold toL
  unfold List.Nodup at *
  rw [List.pairwise_map]
  refine hnd.imp_of_mem fun {x y} hx hy hxy=>?_
  obtain ⟨i,rfl,_⟩:=hto x hx
  obtain ⟨j,rfl,_⟩:=hto y hy
  simp only [Int.toNat_natCast]
  omega
 ·obtain ⟨i,e,hi,t,ht,hst⟩:=hto _ ((hmem s).1 hs)
  obtain rfl:s=i:=by omega
  refine ⟨hi,?_⟩
  obtain ⟨htn,htc⟩:=h0.ok.mem_row ht
  have htd:¬Dead (ofL d) (some t):=fun hd=>by
   have:=(h0.dead t htn).2 hd
   omega
  have hsd:¬Dead (ofL d) (some s):=fun hd=>htd fun w=>by
   have:=hd (S[k].lo :: w)
   rw [acc_cons,hst] at this
   exact this
  rcases h.lt hi with h1 | h1
  ·exact absurd ((h.dead s hi).1 h1) hsd
  ·exact h1.1
 ·rw [hiff s _ hs (Nat.le_refl _) e1,hiff t _ ht (Nat.le_refl _) e1]
  exact h0.lead_eqv c _ s t he
theorem HW.next (h0:HInv d O (fun _=>False) C0) (hS:Cut ((C0.row c).flatMap (back d)) 0 S) {k:Nat} {C:Cls} (h:HW d C0 c S k C) (hk:k<S.length):HW d C0 c S (k+1) (splitBy C (toL S[k])):=by
 obtain ⟨_,l2,l3,l4,l5⟩:=HW.list h0 hS h.inv hk
 obtain ⟨s1,s2,s3⟩:=h.inv.splitBy l2 l3 l4
 refine ⟨s1.next (fun _=>Iff.rfl) fun a ha hna s t hs ht e he=>?_,?_⟩
 ·obtain ⟨j,hj,hjl,hja⟩:=ha
  have hjk:j=k:=by
   apply Classical.byContradiction
   intro hne
   exact hna ⟨j,by omega,hjl,hja⟩
  subst hjk
  have:=s3 s t hs ht e he
  rw [l5 s a hs hja.1 hja.2,l5 t a ht hja.1 hja.2] at this
  exact this
 ·have:=h.meas
  omega
theorem HW.done {k:Nat} {C:Cls} (h:HW d C0 c S k C) (hk:S.length≤k):HInv d (fun x=>C0.cls x=(c:Int)) (fun _=>False) C:=
 h.inv.next (fun _=>Iff.rfl) fun a ⟨j,hj,hjl,_⟩ _=>by omega
end
noncomputable def othTo (d:List St) (i:Nat):List Nat:=(List.range i).filter (fun i=>!(ofL d).fin i&&aliveB d i)
theorem othTo_all (d:List St):othTo d d.length=others d:=rfl
def finTo (d:List St) (i:Nat):List Nat:=(List.range i).filter (fun i=>(ofL d).fin i)
theorem finTo_all (d:List St):finTo d d.length=finals d:=rfl
theorem finTo_next (d:List St) (i:Nat):finTo d (i+1)=if (ofL d).fin i=true then finTo d i++[i] else finTo d i:=finals_next d i
theorem othTo_next (d:List St) (i:Nat):othTo d (i+1)=if (ofL d).fin i=false∧aliveB d i=true then othTo d i++[i] else othTo d i:=by
 unfold othTo
 rw [List.range_succ,List.filter_append]
 cases h1:(ofL d).fin i <;> cases h2:aliveB d i <;> simp [h1,h2]
theorem finTo_len (d:List St) (i:Nat):(finTo d i).length≤i:=by
 have:=List.length_filter_le (fun i=>(ofL d).fin i) (List.range i)
 rw [List.length_range] at this
 exact this
theorem othTo_len (d:List St) (i:Nat):(othTo d i).length≤i:=by
 have:=List.length_filter_le (fun i=>!(ofL d).fin i&&aliveB d i) (List.range i)
 rw [List.length_range] at this
 exact this
end Au
structure Base (w0 w:World) (κ:Nat→Nat):Prop where
 below:Below w0.heap.size w0 w
 old:∀k,k<w0.heap.size→κ k=0
theorem Base.pst {w0 w w':World} {κ κ':Nat→Nat} (h:Base w0 w κ) (hs:Pst O0 κ w w' κ'):Base w0 w' κ':=
 ⟨h.below.trans ⟨hs.os,hs.tape,hs.output,hs.size,fun k hk=>hs.block k (Nat.lt_of_lt_of_le hk h.below.size) (h.old k hk)⟩,fun k hk=>(hs.col k (Nat.lt_of_lt_of_le hk h.below.size) (h.old k hk)).trans (h.old k hk)⟩
theorem Pst.of_below {K:Nat→Prop} {κ:Nat→Nat} {c:Nat} {w w':World} (h:Below w.heap.size w w'):Pst K κ w w' (paint κ w.heap.size c):=
 ⟨h.os,h.tape,h.output,h.size,fun k hk _=>h.block k hk,fun _ hk _=>paint_old _ _ _ _ hk⟩
theorem Step.refl (κ:Nat→Nat) (c:Nat) (w:World):Step κ c w w κ:=⟨rfl,rfl,rfl,Nat.le_refl _,fun _ _ _=>rfl,fun _ _=>rfl⟩
theorem Pst.zero9 {κ κ1:Nat→Nat} {w w1:World} (h:Pst E9 κ w w1 κ1):Pst O0 κ w w1 κ1:=h.weak.zero
structure Cl1 (d:List Au.St) (w0 w:World) (κ:Nat→Nat) (n p bo ba i k:Nat) (vf vo:Value):Prop where
 cls:ClsS n w p κ { Au.Cls.none with of:=fun j=>if j<k then -1 else 0} [] bo ba (.slice none 0 0) (.slice none 0 0) (.slice none 0 0)
 fin:RowC κ 2 w 3 1 vf (Au.finTo d i).length (natsV (Au.finTo d i))
 oth:RowC κ 4 w 3 1 vo (Au.othTo d i).length (natsV (Au.othTo d i))
 base:Base w0 w κ
section
variable {d:List Au.St} {w0 w w':World} {κ κ':Nat→Nat} {n p bo ba i k:Nat} {vf vo:Value}
theorem Cl1.zero (h:Cl1 d w0 w κ n p bo ba i k vf vo) (hb:Below w.heap.size w w'):Cl1 d w0 w' (paint κ w.heap.size 0) n p bo ba i k vf vo:=
 ⟨h.cls.step (Step.of_below hb) rfl,h.fin.step (Step.of_below hb) (by decide),h.oth.step (Step.of_below hb) (by decide),h.base.pst (Pst.of_below hb)⟩
theorem Cl1.mark (h:Cl1 d w0 w κ n p bo ba i i vf vo) (hi:i<n):(w.frozen? ⟨bo,i,none⟩=false∧w.cell? ⟨bo,i,none⟩=some (.int .i64 0))∧Cl1 d w0 (w.setCell ⟨bo,i,none⟩ (.int .i64 (-1))) κ n p bo ba i (i+1) vf vo:=by
 obtain ⟨⟨f1,c1⟩,h1,p1⟩:=h.cls.setOf i (-1) hi
 refine ⟨⟨f1,by simpa using c1⟩,?_,p1.row h.fin (.inl rfl),p1.row h.oth (.inl rfl),h.base.pst p1.zero9⟩
 have e:(fun j=>if j=i then (-1:Int) else (if j<i then (-1:Int) else 0))=fun j=>if j<i+1 then (-1:Int) else 0:=funext fun j=>by
  by_cases e:j=i
  ·subst e;rw [if_pos rfl,if_pos (by omega)]
  ·rw [if_neg e]
   by_cases h2:j<i
   ·rw [if_pos h2,if_pos (by omega)]
   ·rw [if_neg h2,if_neg (by omega)]
 have:=h1
 dsimp only at this
 rw [e] at this
 exact this
theorem Cl1.skip (h:Cl1 d w0 w κ n p bo ba i (i+1) vf vo) (hf:(Au.ofL d).fin i=false) (ha:Au.aliveB d i=false):Cl1 d w0 w κ n p bo ba (i+1) (i+1) vf vo:=by
 have e1:Au.finTo d (i+1)=Au.finTo d i:=by rw [Au.finTo_next,if_neg (by rw [hf];decide)]
 have e2:Au.othTo d (i+1)=Au.othTo d i:=by rw [Au.othTo_next,if_neg (by rw [ha];simp)]
 exact ⟨h.cls,by rw [e1];exact h.fin,by rw [e2];exact h.oth,h.base⟩
theorem Cl1.addF {g m cp:Nat} (h:Cl1 d w0 w κ n p bo ba i (i+1) vf vo) (hf:(Au.ofL d).fin i=true) (hm:m=(Au.finTo d i).length+1)
  (hr:RowC κ' 2 w' 3 1 (.slice (some ⟨g,0,none⟩) m cp) m (natsV (Au.finTo d i)++[.int .i64 (i:Int)])) (hs:Step κ 2 w w' κ'):
  Cl1 d w0 w' κ' n p bo ba (i+1) (i+1) (.slice (some ⟨g,0,none⟩) m cp) vo∧m=(Au.finTo d (i+1)).length:=by
 have e1:Au.finTo d (i+1)=Au.finTo d i++[i]:=by rw [Au.finTo_next,if_pos hf]
 have e2:Au.othTo d (i+1)=Au.othTo d i:=by rw [Au.othTo_next,if_neg (by rw [hf];simp)]
 have e3:(Au.finTo d i++[i]).length=m:=by rw [List.length_append];exact hm.symm
 refine ⟨⟨h.cls.step hs rfl,?_,by rw [e2];exact h.oth.step hs (by decide),h.base.pst (Pst.of_step hs (by unfold O0;decide))⟩,by rw [e1,e3]⟩
 rw [e1,e3,←natsV_snoc]
 exact hr
theorem Cl1.addO {g m cp:Nat} (h:Cl1 d w0 w κ n p bo ba i (i+1) vf vo) (hf:(Au.ofL d).fin i=false) (ha:Au.aliveB d i=true) (hm:m=(Au.othTo d i).length+1)
  (hr:RowC κ' 4 w' 3 1 (.slice (some ⟨g,0,none⟩) m cp) m (natsV (Au.othTo d i)++[.int .i64 (i:Int)])) (hs:Step κ 4 w w' κ'):
  Cl1 d w0 w' κ' n p bo ba (i+1) (i+1) vf (.slice (some ⟨g,0,none⟩) m cp)∧m=(Au.othTo d (i+1)).length:=by
 have e1:Au.finTo d (i+1)=Au.finTo d i:=by rw [Au.finTo_next,if_neg (by rw [hf];decide)]
 have e2:Au.othTo d (i+1)=Au.othTo d i++[i]:=by rw [Au.othTo_next,if_pos ⟨hf,ha⟩]
 have e3:(Au.othTo d i++[i]).length=m:=by rw [List.length_append];exact hm.symm
 refine ⟨⟨h.cls.step hs rfl,by rw [e1];exact h.fin.step hs (by decide),?_,h.base.pst (Pst.of_step hs (by unfold O0;decide))⟩,by rw [e2,e3]⟩
 rw [e2,e3,←natsV_snoc]
 exact hr
theorem cl1_start (d:List Au.St) (w:World) (n bo ba:Nat) (h:(bo=w.heap.size∧ba=w.heap.size+1)∨(bo=w.heap.size+1∧ba=w.heap.size)):
  Cl1 d w (((w.alloc (.cells (madeCells #[.int .i64 0] n) 3)).alloc (.cells (madeCells #[.int .i64 0] n) 3)).alloc (.cells #[.slice (some ⟨bo,0,none⟩) n n,.slice (some ⟨ba,0,none⟩) n n,.slice none 0 0,.slice none 0 0,.slice none 0 0] 160)).drew
   (fun k=>if k=bo then 1 else if k=ba then 3 else if k=w.heap.size+2 then 5 else 0) n (w.heap.size+2) bo ba 0 0 (.slice none 0 0) (.slice none 0 0):=by
 have r1:(w.alloc (.cells (madeCells #[.int .i64 0] n) 3)).rowIs w.heap.size 3 n (fun _=>.int .i64 0):=World.rowIs_made w _ n _
 have r2:((w.alloc (.cells (madeCells #[.int .i64 0] n) 3)).alloc (.cells (madeCells #[.int .i64 0] n) 3)).rowIs (w.heap.size+1) 3 n (fun _=>.int .i64 0):=by
  have:=World.rowIs_made (w.alloc (.cells (madeCells #[.int .i64 0] n) 3)) (.int .i64 0) n 3
  simpa using this
 have r1':=((r1.alloc (.cells (madeCells #[.int .i64 0] n) 3)).alloc (.cells #[.slice (some ⟨bo,0,none⟩) n n,.slice (some ⟨ba,0,none⟩) n n,.slice none 0 0,.slice none 0 0,.slice none 0 0] 160)).drew
 have r2':=(r2.alloc (.cells #[.slice (some ⟨bo,0,none⟩) n n,.slice (some ⟨ba,0,none⟩) n n,.slice none 0 0,.slice none 0 0,.slice none 0 0] 160)).drew
 have hbo:((((w.alloc (.cells (madeCells #[.int .i64 0] n) 3)).alloc (.cells (madeCells #[.int .i64 0] n) 3)).alloc (.cells #[.slice (some ⟨bo,0,none⟩) n n,.slice (some ⟨ba,0,none⟩) n n,.slice none 0 0,.slice none 0 0,.slice none 0 0] 160)).drew).rowIs bo 3 n (fun _=>.int .i64 0):=by
  rcases h with ⟨rfl,_⟩ | ⟨rfl,_⟩
  ·exact r1'
  ·exact r2'
 have hba:((((w.alloc (.cells (madeCells #[.int .i64 0] n) 3)).alloc (.cells (madeCells #[.int .i64 0] n) 3)).alloc (.cells #[.slice (some ⟨bo,0,none⟩) n n,.slice (some ⟨ba,0,none⟩) n n,.slice none 0 0,.slice none 0 0,.slice none 0 0] 160)).drew).rowIs ba 3 n (fun _=>.int .i64 0):=by
  rcases h with ⟨_,rfl⟩ | ⟨_,rfl⟩
  ·exact r2'
  ·exact r1'
 have hp:=Go.Deep.blk_alloc_new ((w.alloc (.cells (madeCells #[.int .i64 0] n) 3)).alloc (.cells (madeCells #[.int .i64 0] n) 3)) (.cells #[.slice (some ⟨bo,0,none⟩) n n,.slice (some ⟨ba,0,none⟩) n n,.slice none 0 0,.slice none 0 0,.slice none 0 0] 160)
 have hsz:((w.alloc (.cells (madeCells #[.int .i64 0] n) 3)).alloc (.cells (madeCells #[.int .i64 0] n) 3)).heap.size=w.heap.size+2:=by simp
 rw [hsz] at hp
 refine ⟨⟨hp,?_,hbo,if_pos rfl,hba,?_,RowC.nil _ _ _ _ _,rfl,fun c hc=>by simp at hc,RowC.nil _ _ _ _ _,RowC.nil _ _ _ _ _⟩,RowC.nil _ _ _ _ _,RowC.nil _ _ _ _ _,?_,fun k hk=>?_⟩
 ·show (if _ then _ else _)=_
  rw [if_neg (by omega),if_neg (by omega),if_pos rfl]
 ·show (if _ then _ else _)=_
  rw [if_neg (by omega),if_pos rfl]
 ·exact ((((Below.refl _ _).alloc (Nat.le_refl _) _).alloc (by simp) _).alloc (by simp;omega) _).drew
 ·show (if _ then _ else _)=_
  rw [if_neg (by omega),if_neg (by omega),if_neg (by omega)]
end
end
section
open Go.RowKit
theorem StrS.pst {w w':World} {κ κ':Nat→Nat} {u:Value} {S:List Au.Strch} (h:StrS (fun g=>κ g=0) w u S) (hs:Pst O0 κ w w' κ'):StrS (fun g=>κ' g=0) w' u S:=by
 have h1:=h.wide (G:=fun g=>κ' g=0∧κ g=0) fun g hg hk=>⟨(hs.col g hg hk).trans hk,hk⟩
 exact (h1.keep hs.size fun g hg hl=>hs.block g hl hg.2).wide fun g _ hg=>hg.1
structure Cls2 (d:List Au.St) (w0 w:World) (κ:Nat→Nat) (n p:Nat) (C:Au.Cls) (O:Option Nat→Prop):Prop where
 cls:ClsM n w p κ C
 inv:Au.HInv d O (fun _=>False) C
 base:Base w0 w κ
theorem ClsS.pop {n p:Nat} {w:World} {κ:Nat→Nat} {C:Au.Cls} {X:List Value} {bo ba gw m cw gq cq c ql:Nat} {q:List Nat} {vm:Value} (h:ClsS n w p κ C X bo ba vm (.slice (some ⟨gw,0,none⟩) m cw) (.slice (some ⟨gq,0,none⟩) (ql+1) cq)) (hm:m=C.waits.length) (hq:C.wq=q++[c]) (hql:q.length=ql) (hc:c<m):
  (w.cell? ⟨p,4,none⟩=some (.slice (some ⟨gq,0,none⟩) (ql+1) cq)∧w.frozen? ⟨p,4,none⟩=false) ∧
  ((w.setCell ⟨p,4,none⟩ (.slice (some ⟨gq,0,none⟩) ql cq)).frozen? ⟨gw,c,none⟩=false∧(∃u,(w.setCell ⟨p,4,none⟩ (.slice (some ⟨gq,0,none⟩) ql cq)).cell? ⟨gw,c,none⟩=some u)∧(w.setCell ⟨p,4,none⟩ (.slice (some ⟨gq,0,none⟩) ql cq)).cell? ⟨p,3,none⟩=some (.slice (some ⟨gw,0,none⟩) m cw)) ∧
  ClsM n ((w.setCell ⟨p,4,none⟩ (.slice (some ⟨gq,0,none⟩) ql cq)).setCell ⟨gw,c,none⟩ (.bool false)) p κ (C.pop q c)∧Pst E9 κ w ((w.setCell ⟨p,4,none⟩ (.slice (some ⟨gq,0,none⟩) ql cq)).setCell ⟨gw,c,none⟩ (.bool false)) κ:=by
 have hr:=h.wq
 rw [hq,List.length_append,show q.length+[c].length=ql+1 by rw [hql];rfl] at hr
 have hl:=hr.less ql (Nat.le_succ _)
 have e:(natsV (q++[c])).take (ql*1)=natsV q:=by
  unfold natsV
  rw [←List.map_take,Nat.mul_one,List.take_left' hql]
 rw [e] at hl
 obtain ⟨h1,h2,p2⟩:=h.setQ (Step.refl κ 13 w) (l:=q) (m:=ql) hql.symm hl
 obtain ⟨⟨f3,u3,c3⟩,h3,p3⟩:=h2.setW hm c false hc
 exact ⟨h1,⟨f3,⟨u3,c3⟩,h2.cells.2.2.2.1⟩,⟨_,_,_,_,_,_,h3⟩,p2.trans p3⟩
theorem classesOf_any (F:Nat→Prop) (w:World) (u vb:Value) (ga:Nat) (d:List Au.St) (n:Nat) (hd:d.length=n) (hf:Au.Fits d) (h0:¬Au.Dead (Au.ofL d) (some 0)) (hu:StS F w u d) (hb:RowsS F w vb ((List.range n).map (Au.back d))) (hal:w.rowIs ga 4 n (fun j=>.bool (Au.aliveB d j))):
  Calls Tryz.prog 61 #[u,vb,.slice (some ⟨ga,0,none⟩) n n] w fun e w'=>∃p κ C O,e=.returned (.pointer (some ⟨p,0,none⟩))∧Cls2 d w w' κ n p C O∧C.wq=[]:=by
 have hn2:n≤20000:=by have:=hf.top;omega
 have hn0:0<n:=by have:=hf.pos;omega
 obtain ⟨ad,cd,rfl,_,_,hdc⟩:=hu
 obtain ⟨gd,od,rfl,lgd,_,hdc⟩:=hdc (by omega)
 have HDC:=lh hdc
 have HDN:=lh hd
 have HF:=lh hf
 have HAL:=lh hal
 have HBEG:=lh fun O=>Au.begun_inv hf h0 O
 have hmk:=run_make_row' (P:=Tryz.prog) 82 3 (.int .i64 0) 8 Tryz.underlying82 Tryz.infoN rfl .i64 .i64 n (by omega) (by omega)
 obtain ⟨i1,hi1,hy0,hy1,hy2⟩:=info_parts Tryz.infoN
 have hln:((List.range n).map (Au.back d)).length=n:=by simp
 have hb2:=hb
 obtain ⟨ab,cb,hvb,hjunk⟩:=hb
 rw [hln] at hvb
 subst hvb
 have HB:=lh hb2
 rw [hd]
 clear hdc hd hf hal h0 hjunk hb2 hln
 go_enter Tryz.func61,Tryz.ntmps61
 go_upto_region 1 with (fail)
 go_cut [7] (fun s7 wx=>∃p bo ba κ,s7=.pointer (some ⟨p,0,none⟩)∧Hid (Cl1 d w wx κ n p bo ba 0 0 (.slice none 0 0) (.slice none 0 0)))
 case first=>
  go_region
  all_goals
   go_wp2_with fail
   go_meet
   first
    | exact ⟨_,w.heap.size,w.heap.size+1,_,rfl,cl1_start d w n _ _ (.inl ⟨rfl,rfl⟩)⟩
    | exact ⟨_,w.heap.size+1,w.heap.size,_,rfl,cl1_start d w n _ _ (.inr ⟨rfl,rfl⟩)⟩
 case rest=>
  obtain ⟨p,bo,ba,κ,rfl,H1⟩:=hcut
  clear hmk
  go_wp2_with fail
  go_loopg [8,9,26] n (fun gg s8 s9 s26 wx=>∃(i:Nat) (κ:Nat→Nat),i≤n∧gg=n-i∧s26=.int .i64 i∧Hid (Cl1 d w wx κ n p bo ba i i s8 s9))
  case atStart=>exact ⟨0,_,Nat.zero_le _,rfl,rfl,H1⟩
  case round=>
   clear H1
   obtain ⟨i,κ,hi,rfl,rfl,hP⟩:=hrel
   obtain ⟨a8,c8,rfl,_,_,_⟩:=hP.out.fin.form
   obtain ⟨a9,c9,rfl,_,_,_⟩:=hP.out.oth.form
   have hl8:=Au.finTo_len d i
   have hl9:=Au.othTo_len d i
   by_cases hin:i<n
   ·have j1:(i:Int)<(n:Int):=by omega
    have hid:i<d.length:=by rw [HDN.out];exact hin
    obtain ⟨c1,va,c2,hA⟩:=HDC.out i hid
    have hbl:=hP.out.base.below
    have e1:=(cell_same (a:=⟨gd,od+i*2,none⟩) (hbl.block gd lgd)).trans c1
    have e2:=(cell_same (a:=⟨gd,od+i*2+1,none⟩) (hbl.block gd lgd)).trans c2
    obtain ⟨aa,ca,rfl,hjunk⟩:=hA
    clear hjunk
    have hfi:Hid ((Au.ofL d).fin i=d[i].fin):=by
     show _=_
     simp [Au.ofL,List.getElem?_eq_getElem hid]
    generalize d[i].fin=fin at *
    generalize d[i].arcs.length=m at *
    have HP1:=lh (hP.out.zero ((Below.refl _ _).alloc (Nat.le_refl _) (.cells #[.bool fin,.slice aa m ca] 61)))
    have hDb:Hid ((wr.alloc (.cells #[.bool fin,.slice aa m ca] 61)).heap[wr.heap.size]?=some (.cells #[.bool fin,.slice aa m ca] 61 (0,0))):=Go.Deep.blk_alloc_new _ _
    have hkD:Hid (paint κ wr.heap.size 0 wr.heap.size=0):=paint_new _ _ _ _ (Nat.le_refl _)
    clear hP hbl c1 c2
    go_upto_region 6 with (fail)
    generalize wr.alloc (.cells #[.bool fin,.slice aa m ca] 61)=w2 at *
    generalize wr.heap.size=D at *
    generalize paint κ D 0=κ2 at *
    obtain ⟨⟨f1,c1⟩,hm1⟩:=HP1.out.mark hin
    obtain ⟨b0,_,_,_,_,_⟩:=HP1.out.cls.cells
    have d0:w2.cell? ⟨D,0,none⟩=some (.bool fin):=by have h:=hDb.out;simp [World.cell?,h]
    have hDbo:D≠bo:=fun e=>by
     have h1:=HP1.out.cls.ko
     rw [←e,hkD.out] at h1
     omega
    have d1:=(cell_same (a:=⟨D,0,none⟩) (heap_other w2 bo i D (.int .i64 (-1)) hDbo)).trans d0
    have HM1:=lh hm1
    have e3:=(cell_same (a:=⟨ga,i,none⟩) (hm1.base.below.block ga HAL.out.lt)).trans (HAL.out.cell hin)
    clear HP1 hDb hkD hDbo hm1
    go_upto_region 7 with (fail)
    clear d0 c1 f1 b0
    generalize w2.setCell ⟨bo,i,none⟩ (.int .i64 (-1))=w3 at *
    cases fin with
    | true=>
     go_wp2_with (at_builtin;refine wpList_pushC rfl _ _ 82 3 rfl i1 _ 1 8 Tryz.underlying82 hi1 hy0 hy1 hy2 rfl (by decide) κ2 2 _ (Au.finTo d i).length (natsV (Au.finTo d i)) rfl HM1.out.fin [.int .i64 (i:Int)] rfl (one_of rfl) rfl (by omega) (by omega) ?_;intro g6 cp6 w6 hr6 hs6;have HP6:=lh (HM1.out.addF hfi.out rfl hr6 hs6).1;clear hr6 hs6)
     go_roundg (n-(i+1))
     case rel=>exact ⟨i+1,_,by omega,rfl,by go_num,HP6⟩
     case measure=>omega
    | false=>
     cases hab:Au.aliveB d i with
     | true=>
      rw [hab] at e3
      go_wp2_with (at_builtin;refine wpList_pushC rfl _ _ 82 3 rfl i1 _ 1 8 Tryz.underlying82 hi1 hy0 hy1 hy2 rfl (by decide) κ2 4 _ (Au.othTo d i).length (natsV (Au.othTo d i)) rfl HM1.out.oth [.int .i64 (i:Int)] rfl (one_of rfl) rfl (by omega) (by omega) ?_;intro g6 cp6 w6 hr6 hs6;have HP6:=lh (HM1.out.addO hfi.out hab rfl hr6 hs6).1;clear hr6 hs6)
      go_roundg (n-(i+1))
      case rel=>exact ⟨i+1,_,by omega,rfl,by go_num,HP6⟩
      case measure=>omega
     | false=>
      rw [hab] at e3
      have HP6:=lh (HM1.out.skip hfi.out hab)
      clear HM1
      go_wp2_with fail
      go_roundg (n-(i+1))
      case rel=>exact ⟨i+1,_,by omega,rfl,by go_num,HP6⟩
      case measure=>omega
   ·obtain rfl:i=n:=by omega
    have HC0:Hid (ClsM i wr p (fun k=>if κ k=2 then 9 else κ k) Au.Cls.none∧RowC (fun k=>if κ k=2 then 9 else κ k) 9 wr 3 1 (.slice a8 (Au.finals d).length c8) (Au.finals d).length (natsV (Au.finals d))∧RowC (fun k=>if κ k=2 then 9 else κ k) 4 wr 3 1 (.slice a9 (Au.others d).length c9) (Au.others d).length (natsV (Au.others d))∧Base w wr (fun k=>if κ k=2 then 9 else κ k)):=by
     have h:=hP.out
     have hf1:=h.fin
     have ho1:=h.oth
     rw [←HDN.out,Au.finTo_all] at hf1
     rw [←HDN.out,Au.othTo_all] at ho1
     have hcl:ClsS i wr p κ Au.Cls.none [] bo ba (.slice none 0 0) (.slice none 0 0) (.slice none 0 0):=
      ⟨h.cls.prow,h.cls.kp,h.cls.of.congr fun j hj=>by simp [Au.Cls.none,hj],h.cls.ko,h.cls.pos,h.cls.ka,h.cls.mem,h.cls.lenX,h.cls.each,h.cls.waits,h.cls.wq⟩
     refine ⟨ClsM.recol ⟨_,_,_,_,_,_,hcl⟩ fun k _ ho _=>if_neg (by omega),⟨hf1.own,fun b hb=>?_⟩,⟨ho1.own,fun b hb=>?_⟩,h.base.below,fun k hk=>?_⟩
     ·show (if _ then _ else _)=_
      rw [if_pos (hf1.col b hb)]
     ·show (if _ then _ else _)=_
      rw [ho1.col b hb,if_neg (by decide)]
     ·show (if _ then _ else _)=_
      rw [h.base.old k hk,if_neg (by decide)]
    have hfl:(Au.finTo d i).length=(Au.finals d).length:=by rw [←HDN.out,Au.finTo_all]
    have hol:(Au.othTo d i).length=(Au.others d).length:=by rw [←HDN.out,Au.othTo_all]
    generalize (fun k=>if κ k=2 then 9 else κ k)=κ1 at *
    have hfm:∀s∈Au.finals d,s<i:=fun s hs=>by
     unfold Au.finals at hs
     have:=List.mem_range.1 (List.mem_filter.1 hs).1
     rw [HDN.out] at this
     exact this
    have hom:∀s∈Au.others d,s<i:=fun s hs=>by
     unfold Au.others at hs
     have:=List.mem_range.1 (List.mem_filter.1 hs).1
     rw [HDN.out] at this
     exact this
    have HFD:=lh (found_any i wr p κ1 Au.Cls.none (Au.finals d) (.slice a8 (Au.finals d).length c8) HC0.out.1 HC0.out.2.1 hfm (List.Nodup.sublist List.filter_sublist List.nodup_range) (by show (0:Nat)≤_;omega) (by show (0:Nat)≤_;omega) (by omega))
    have HW0:Hid (∀W κ,ClsM i W p κ (Au.Cls.none.found (Au.finals d))→Calls Tryz.prog 84 #[.pointer (some ⟨p,0,none⟩),.int .i64 0] W fun e w'=>e=.returned (.tuple #[])∧ClsP E9 i p κ W ((Au.Cls.none.found (Au.finals d)).wait 0) w'):=fun W κ h=>
     wait_any i W p κ _ 0 h (by show 0<1;omega) (by show 1≤_;omega) (by show 0≤_;omega)
    have HFE:Hid (∀W κ,ClsM i W p κ ((Au.Cls.none.found (Au.finals d)).wait 0)→RowC κ 9 W 3 1 (.slice a9 (Au.others d).length c9) (Au.others d).length (natsV (Au.others d))→Calls Tryz.prog 85 #[.pointer (some ⟨p,0,none⟩),.slice a9 (Au.others d).length c9] W fun e w'=>e=.returned (.int .i64 1)∧ClsP E i p κ W (((Au.Cls.none.found (Au.finals d)).wait 0).found (Au.others d)) w'):=fun W κ h h2=>
     found_any i W p κ _ (Au.others d) _ h h2 hom (List.Nodup.sublist List.filter_sublist List.nodup_range) (by show (1:Nat)≤_;omega) (by show (1:Nat)≤_;omega) (by omega)
    have HW1:Hid (∀W κ,ClsM i W p κ (((Au.Cls.none.found (Au.finals d)).wait 0).found (Au.others d))→Calls Tryz.prog 84 #[.pointer (some ⟨p,0,none⟩),.int .i64 1] W fun e w'=>e=.returned (.tuple #[])∧ClsP E9 i p κ W (Au.begun d) w'):=fun W κ h=>
     wait_any i W p κ _ 1 h (by show 1<2;omega) (by show 2≤_;omega) (by show 1≤_;omega)
    change Hid (Calls _ _ _ _ fun e w'=>e=.returned (.int .i64 0)∧_) at HFD
    rw [hfl,hol]
    clear hP hfm hom hfl hol hl8 hl9
    go_wp2_with fail
    refine HFD.out.mono ?_
    rintro e w5 ⟨rfl,κ5,h5,p5⟩
    have H5:=lh (And.intro h5 (And.intro (p5.row HC0.out.2.2.1 rfl) (HC0.out.2.2.2.pst p5.zero)))
    clear h5 p5 HFD HC0
    go_wp2_with fail
    refine (HW0.out _ _ H5.out.1).mono ?_
    rintro e w6 ⟨rfl,κ6,h6,p6⟩
    have H6:Hid (ClsM i w6 p (fun k=>if κ6 k=4 then 9 else κ6 k) ((Au.Cls.none.found (Au.finals d)).wait 0)∧RowC (fun k=>if κ6 k=4 then 9 else κ6 k) 9 w6 3 1 (.slice a9 (Au.others d).length c9) (Au.others d).length (natsV (Au.others d))∧Base w w6 (fun k=>if κ6 k=4 then 9 else κ6 k)):=by
     have ho:=p6.row H5.out.2.1 (.inl rfl)
     have hb:=H5.out.2.2.pst p6.zero9
     refine ⟨h6.recol fun k _ ho _=>if_neg (by omega),⟨ho.own,fun b hb=>?_⟩,hb.below,fun k hk=>?_⟩
     ·show (if _ then _ else _)=_
      rw [if_pos (ho.col b hb)]
     ·show (if _ then _ else _)=_
      rw [hb.old k hk,if_neg (by decide)]
    clear h6 p6 HW0 H5
    generalize (fun k=>if κ6 k=4 then 9 else κ6 k)=κ7 at *
    go_wp2_with fail
    refine (HFE.out _ _ H6.out.1 H6.out.2.1).mono ?_
    rintro e w7 ⟨rfl,κ8,h7,p7⟩
    have H7:=lh (And.intro h7 (H6.out.2.2.pst p7.zero))
    clear h7 p7 HFE H6
    go_wp2_with fail
    refine (HW1.out _ _ H7.out.1).mono ?_
    rintro e w8 ⟨rfl,κ9,h8,p8⟩
    have H8:Hid (Cls2 d w w8 κ9 i p (Au.begun d) (fun _=>False)):=⟨h8,HBEG.out _,H7.out.2.pst p8.zero9⟩
    clear h8 p8 HW1 H7 HBEG
    go_wp2_with fail
    go_loopg [] ((Au.begun d).wq.length+(i+1-(Au.begun d).mem.length)) (fun gg wx=>∃κ C O,gg=C.wq.length+(i+1-C.mem.length)∧Hid (Cls2 d w wx κ i p C O))
    case atStart=>exact ⟨_,_,_,rfl,H8⟩
    case round=>
     clear H8
     obtain ⟨κ,C,O,rfl,hP⟩:=hrel
     obtain ⟨X,bo,ba,vm,vw,vq,hS⟩:=hP.out.cls
     have hfew:C.mem.length≤i+1:=by
      have:=Au.few_classes hP.out.inv.ok hP.out.inv.ne
      rw [HDN.out] at this
      exact this
     obtain ⟨b0,b1,b2,b3,b4,b5⟩:=hS.cells
     rcases List.eq_nil_or_concat C.wq with hq | ⟨q,c,hq⟩
     ·have hform:=hS.wq.form
      rw [hq] at hform
      obtain ⟨aq,cq,rfl,_,_,_⟩:=hform
      clear hS b5
      go_wp2_with fail
      go_ret
      exact ⟨p,κ,C,O,rfl,hP.out,hq⟩
     ·rw [List.concat_eq_append] at hq
      have hcq:c∈C.wq:=by rw [hq];simp
      have hcm:=hP.out.inv.wait.lt hcq
      have hwl:=hP.out.inv.wait.len
      have hwql:C.wq.length=q.length+1:=by rw [hq];simp
      obtain ⟨aw,cw,rfl,_,_,hw4⟩:=hS.waits.form
      obtain ⟨gw,rfl,_⟩:=hw4 (by omega)
      have hform:=hS.wq.form
      rw [hwql] at hform
      obtain ⟨aq,cq,rfl,hqc,_,hq4⟩:=hform
      obtain ⟨gq,rfl,_,_,_,hqx⟩:=hq4 (by omega)
      obtain ⟨ql,hql⟩:∃ql,q.length=ql:=⟨_,rfl⟩
      obtain ⟨m,hm⟩:∃m,m=C.waits.length:=⟨_,rfl⟩
      have r1:=hqx ql (.int .i64 (c:Int)) (by rw [hq,←hql];simp [natsV])
      rw [hql] at hS b4 hqc
      rw [←hm] at hS b3
      have hcm2:c<m:=by omega
      obtain ⟨⟨p1,p2⟩,⟨p3,⟨u4,p4⟩,p5⟩,hM,hPst⟩:=hS.pop hm hq hql hcm2
      have hH2:Hid (ClsM i ((wr.setCell ⟨p,4,none⟩ (.slice (some ⟨gq,0,none⟩) ql cq)).setCell ⟨gw,c,none⟩ (.bool false)) p κ (C.pop q c)∧Base w ((wr.setCell ⟨p,4,none⟩ (.slice (some ⟨gq,0,none⟩) ql cq)).setCell ⟨gw,c,none⟩ (.bool false)) κ):=⟨hM,hP.out.base.pst hPst.zero9⟩
      have j1:(c:Int)<(m:Int):=by omega
      have j2:∀_:True,wrap64 (ql:Int)=(ql:Int):=fun _=>by unfold wrap64;omega
      have j3:(ql:Int)<(ql:Int)+1:=by omega
      have j4:(ql:Int)<((ql+1:Nat):Int):=by omega
      have j5:(ql:Int)≤(cq:Int):=by omega
      have j6:(0:Int)<(ql:Int)+1:=by omega
      have j7:(0:Int)<((ql+1:Nat):Int):=by omega
      have HINV:=lh hP.out.inv
      have HWQ:Hid (C.wq.length=ql+1):=by
       show _=_
       omega
      have HQ:=lh hq
      have hrow:∀x∈C.row c,x<i:=fun x hx=>by
       have:=(hP.out.inv.ok.mem_row hx).1
       rw [HDN.out] at this
       exact this
      have hnd:=hP.out.inv.ok.nodup c
      clear hS b0 b1 b2 b5 hw4 hq4 hqx hM hPst hP hwl hwql hcq p1 hm hcm2 hq hql
      go_upto_region 19 with (fail)
      generalize (wr.setCell ⟨p,4,none⟩ (.slice (some ⟨gq,0,none⟩) ql cq)).setCell ⟨gw,c,none⟩ (.bool false)=w3 at *
      have HWH:=lh (whence_any d w3 p κ (C.pop q c) c F (.slice ab i cb) i HDN.out HF.out hH2.out.1 hcm hrow hnd (HB.out.below hH2.out.2.below) (by show C.mem.length≤_;omega))
      clear p2 p3 p4 p5 b3 b4 r1 hrow hnd
      go_wp2_with fail
      refine HWH.out.mono ?_
      rintro e w4 ⟨uu,S,rfl,hcut,hstr,hb4⟩
      have HCUT:Hid (Au.Cut ((C.row c).flatMap (Au.back d)) 0 S):=hcut
      have hstr2:=hstr.wide (G:=fun g=>paint κ w3.heap.size 0 g=0) fun g _ hg=>paint_new _ _ _ _ hg
      obtain ⟨sa,cs,rfl,_,_,hjunk⟩:=hstr
      clear hjunk
      have hfewS:=hcut.few (Nat.zero_le _)
      obtain ⟨sl,hsl⟩:∃sl,S.length=sl:=⟨_,rfl⟩
      rw [hsl] at hstr2
      have HSL:=lh hsl
      have HI:Hid (ClsM i w4 p (paint κ w3.heap.size 0) (C.pop q c)∧Au.HW d C c S 0 (C.pop q c)∧Base w w4 (paint κ w3.heap.size 0)∧StrS (fun g=>paint κ w3.heap.size 0 g=0) w4 (.slice sa sl cs) S):=
       ⟨hH2.out.1.step (Step.of_below hb4) rfl,Au.HW.start HINV.out HQ.out hcut,hH2.out.2.pst (Pst.of_below hb4),hstr2⟩
      rw [hsl]
      rw [hsl] at hfewS
      clear hcut hstr2 hb4 HWH hH2 hsl
      go_wp2_with fail
      go_loopg [101] sl (fun gg s101 wx=>∃(k:Nat) (κ:Nat→Nat) (C':Au.Cls),k≤sl∧gg=sl-k∧s101=.int .i64 k∧Hid (ClsM i wx p κ C'∧Au.HW d C c S k C'∧Base w wx κ∧StrS (fun g=>κ g=0) wx (.slice sa sl cs) S))
      case atStart=>exact ⟨0,_,_,Nat.zero_le _,rfl,rfl,HI⟩
      case round=>
       clear HI
       obtain ⟨k,κ,C',hk,rfl,rfl,hI⟩:=hrel
       by_cases hks:k<sl
       ·have j1:(k:Int)<(sl:Int):=by omega
        have hkS:k<S.length:=by rw [HSL.out];exact hks
        obtain ⟨sa',cs',he,_,_,hcl⟩:=hI.out.2.2.2
        simp only [Value.slice.injEq] at he
        obtain ⟨rfl,hz,rfl⟩:=he
        clear hz
        obtain ⟨g,o,rfl,lg,hgz,hcl⟩:=hcl (by omega)
        obtain ⟨q1,q2,vt,q3,hN⟩:=hcl k hkS
        obtain ⟨l1,l2,l3,l4,_⟩:=Au.HW.list HINV.out HCUT.out hI.out.2.1.inv hkS
        have hnx:=lh (Au.HW.next HINV.out HCUT.out hI.out.2.1 hkS)
        obtain ⟨lst,hlst⟩:∃lst,Au.toL S[k]=lst:=⟨_,rfl⟩
        rw [hlst] at l1 l2 l3 l4 hnx
        rw [←l1] at hN
        have hl3:∀s∈lst,s<i∧0≤C'.of s:=fun s hs=>by
         have:=l3 s hs
         rw [HDN.out] at this
         exact this
        generalize S[k].lo=slo at *
        generalize S[k].hi=shi at *
        have hN2:=(hN.wide (G:=fun g=>paint κ wr.heap.size 0 g=0) fun g hg hz=>(paint_old _ _ _ _ hg).trans hz)
        obtain ⟨at',ct,rfl,hjunk⟩:=hN
        clear hjunk
        have hbA:∀ob,Below wr.heap.size wr (wr.alloc ob):=fun ob=>(Below.refl _ _).alloc (Nat.le_refl _) _
        obtain ⟨tl,htl⟩:∃tl,(lst.map fun (i:Nat)=>(i:Int)).length=tl:=⟨_,rfl⟩
        rw [htl] at hN2 q3
        have hI5:Hid (ClsM i (wr.alloc (.cells #[.int .i64 (slo:Int),.int .i64 (shi:Int),.slice at' tl ct] 165)) p (paint κ wr.heap.size 0) C'∧Base w (wr.alloc (.cells #[.int .i64 (slo:Int),.int .i64 (shi:Int),.slice at' tl ct] 165)) (paint κ wr.heap.size 0)∧StrS (fun g=>paint κ wr.heap.size 0 g=0) (wr.alloc (.cells #[.int .i64 (slo:Int),.int .i64 (shi:Int),.slice at' tl ct] 165)) (.slice (some ⟨g,o,none⟩) sl cs) S):=
         ⟨hI.out.1.step (Step.of_below (hbA _)) rfl,hI.out.2.2.1.pst (Pst.of_below (hbA _)),hI.out.2.2.2.pst (Pst.of_below (hbA _))⟩
        have HSB:=lh (splitBy_any d _ _ (wr.alloc (.cells #[.int .i64 (slo:Int),.int .i64 (shi:Int),.slice at' tl ct] 165)) p (paint κ wr.heap.size 0) C' lst (.slice at' tl ct) i HDN.out hI5.out.1 hI.out.2.1.inv (hN2.below (hbA _)) l2 hl3 l4 hn2)
        clear hcl l1 l2 l3 l4 hl3 hN2 hbA hI htl hlst
        go_wp2_with fail
        refine HSB.out.mono ?_
        rintro e w6 ⟨rfl,κ6,h6,p6,_⟩
        have hI6:Hid (ClsM i w6 p κ6 (Au.splitBy C' lst)∧Au.HW d C c S (k+1) (Au.splitBy C' lst)∧Base w w6 κ6∧StrS (fun g=>κ6 g=0) w6 (.slice (some ⟨g,o,none⟩) sl cs) S):=⟨h6,hnx.out,hI5.out.2.1.pst p6,hI5.out.2.2.pst p6⟩
        clear h6 p6 hI5 hnx HSB
        go_wp2_with fail
        go_roundg (sl-(k+1))
        case rel=>exact ⟨k+1,_,_,by omega,rfl,by go_num,hI6⟩
        case measure=>omega
       ·obtain rfl:k=sl:=by omega
        have hI6:Hid (Cls2 d w wr κ i p C' (fun x=>C.cls x=(c:Int))):=⟨hI.out.1,hI.out.2.1.done (by rw [HSL.out];exact Nat.le_refl _),hI.out.2.2.1⟩
        have hme:=hI.out.2.1.meas
        have hfew2:C'.mem.length≤i+1:=by
         have:=Au.few_classes hI6.out.inv.ok hI6.out.inv.ne
         rw [HDN.out] at this
         exact this
        clear hI
        go_wp2_with fail
        go_roundg (C'.wq.length+(i+1-C'.mem.length))
        case rel=>exact ⟨κ,C',_,rfl,hI6⟩
        case measure=>omega
end
section
open Go.RowKit Go.Maps
namespace Au
def trs (C:Cls) (l:List Arc):List (Trail Nat):=l.filterMap fun a=>if C.of a.to.toNat = -1 then none else some ⟨a.lo.toNat,a.hi.toNat,(C.of a.to.toNat).toNat⟩
theorem trs_cons (C:Cls) (a:Arc) (r:List Arc):trs C (a :: r)=if C.of a.to.toNat = -1 then trs C r else ⟨a.lo.toNat,a.hi.toNat,(C.of a.to.toNat).toNat⟩ :: trs C r:=by
 unfold trs
 by_cases h:C.of a.to.toNat = -1
 ·rw [if_pos h,List.filterMap_cons_none (by simp [h])]
 ·rw [if_neg h,List.filterMap_cons_some (by simp [h];rfl)]
theorem trs_snoc (C:Cls) (l:List Arc) (a:Arc):trs C (l++[a])=if C.of a.to.toNat = -1 then trs C l else trs C l++[⟨a.lo.toNat,a.hi.toNat,(C.of a.to.toNat).toNat⟩]:=by
 unfold trs
 rw [List.filterMap_append]
 by_cases h:C.of a.to.toNat = -1
 ·rw [if_pos h];simp [h]
 ·rw [if_neg h];simp [h]
theorem trs_len (C:Cls) (l:List Arc):(trs C l).length≤l.length:=List.length_filterMap_le ..
def leadTo (C:Cls) (t:Int):Option Nat:=if C.of t.toNat = -1 then none else some (C.of t.toNat).toNat
theorem trs_leads (W:Walk Nat) (C:Cls) (s:Nat) {n:Nat}:∀(l:List Arc) (c:Nat),Row n 256 l→(∀a∈l.head?,(c:Int)≤a.lo)→(∀z:Nat,c≤z→z<256→W.go s z=(look l (z:Int)).bind (leadTo C))→Leads W s c (trs C l):=by
 intro l
 induction l with
 | nil=>
  intro c _ _ hg x h1 h2
  rw [hg x h1 h2]
  rfl
 | cons a r ih=>
  intro c hrow hc hg
  obtain ⟨hr,hb,hl⟩:=hrow.tail
  have hca:=hc a (by simp)
  rw [trs_cons]
  have hup:∀z:Int,z≤a.hi→look r z=none:=fun z hz=>look_low hr z fun x hx=>by have:=hl x hx;omega
  by_cases h:C.of a.to.toNat = -1
  ·rw [if_pos h]
   refine ih c hr (fun x hx=>?_) fun z h1 h2=>?_
   ·have:x∈r:=List.mem_of_mem_head? hx
    have:=hl x this
    omega
   ·rw [hg z h1 h2]
    by_cases hz:a.lo≤(z:Int)∧(z:Int)≤a.hi
    ·rw [look_hit a r z hz,hup z hz.2]
     show leadTo C a.to=none
     unfold leadTo
     rw [if_pos h]
    ·by_cases h3:a.hi<(z:Int)
     ·rw [look_skip a r z h3]
     ·rw [look_ahead hrow z (by omega),hup z (by omega)]
  ·rw [if_neg h]
   refine ⟨by show c≤a.lo.toNat;omega,by show a.lo.toNat≤a.hi.toNat;omega,by show a.hi.toNat<256;omega,fun x h1 h2=>?_,fun x h1 h2=>?_,?_⟩
   ·change x<a.lo.toNat at h2
    rw [hg x h1 (by omega),look_ahead hrow x (by omega)]
    rfl
   ·change a.lo.toNat≤x at h1
    change x≤a.hi.toNat at h2
    rw [hg x (by omega) (by omega),look_hit a r x (by omega)]
    show leadTo C a.to=_
    unfold leadTo
    rw [if_neg h]
   ·show Leads W s (a.hi.toNat+1) (trs C r)
    refine ih _ hr (fun x hx=>?_) fun z h1 h2=>?_
    ·have:x∈r:=List.mem_of_mem_head? hx
     have:=hl x this
     omega
    ·rw [hg z (by omega) h2,look_skip a r z (by omega)]
theorem quo_go (d:List St) (C:Cls) (hr:∀i (h:i<d.length),Row d.length 256 d[i].arcs) (c z:Nat):(quo d C).go c z=(look (arcsOf d ((C.row c).getD 0 0)) (z:Int)).bind (leadTo C):=by
 cases hl:look (arcsOf d ((C.row c).getD 0 0)) (z:Int) with
 | none=>
  have:(ofL d).step ((C.row c).getD 0 0) z=none:=by
   cases hs:(ofL d).step ((C.row c).getD 0 0) z with
   | none=>rfl
   | some t=>rw [(look_step d _ z t hr).2 hs] at hl;cases hl
  simp only [quo,this,Option.bind]
 | some t=>
  obtain ⟨k,hk,e⟩:=look_mem hl
  have hb:=(arcsOf_row hr ((C.row c).getD 0 0)).1 k hk
  rw [e] at hb
  have:(ofL d).step ((C.row c).getD 0 0) z=some t.toNat:=(look_step d _ z t.toNat hr).1 (by rw [hl,Int.toNat_of_nonneg hb.2.2.2.1])
  simp only [quo,this,Option.bind,leadTo]
theorem quo_leads (d:List St) (C:Cls) (hr:∀i (h:i<d.length),Row d.length 256 d[i].arcs) (c:Nat):Leads (quo d C) c 0 (trs C (arcsOf d ((C.row c).getD 0 0))):=
 trs_leads _ C c _ 0 (arcsOf_row hr _) (fun a ha=>by
  have h1:a∈arcsOf d ((C.row c).getD 0 0):=List.mem_of_mem_head? ha
  obtain ⟨k,hk,rfl⟩:=List.getElem_of_mem h1
  have:=(arcsOf_row hr _).1 k hk
  omega) fun z _ _=>quo_go d C hr c z
def lp (W:Walk Nat) (C:Cls) (m:List Nat) (l:List Arc):List Nat × List Arc:=(trs C l).foldl W.lead (m,[])
theorem lp_leads (W:Walk Nat) (C:Cls) (m:List Nat) (l:List Arc):lp W C m l=W.leads m (trs C l) (trs C l).length:=by
 unfold lp Walk.leads
 rw [List.take_of_length_le (Nat.le_refl _)]
theorem lp_snoc (W:Walk Nat) (C:Cls) (m:List Nat) (l:List Arc) (a:Arc):lp W C m (l++[a])=if C.of a.to.toNat = -1 then lp W C m l else W.lead (lp W C m l) ⟨a.lo.toNat,a.hi.toNat,(C.of a.to.toNat).toNat⟩:=by
 unfold lp
 rw [trs_snoc]
 split
 ·rfl
 ·rw [List.foldl_append]
  rfl
def idxN (E:List Nat) (b:Nat):Nat:=find (fun a b=>decide (a=b)) E b
theorem idxN_le (E:List Nat) (b:Nat):idxN E b≤E.length:=find_le _ _ _
end Au
def plN (E:List Nat) (b:Nat):Option Value:=if Au.idxN E b=E.length then none else some (.int .i64 (Au.idxN E b:Int))
theorem plN_snoc {E:List Nat} {b:Nat} (h:Au.idxN E b=E.length) (c:Nat):plN (E++[b]) c=if c=b then some (.int .i64 (E.length:Int)) else plN E c:=by
 by_cases e:c=b
 ·rw [if_pos e]
  subst e
  unfold plN
  have h2:Au.idxN (E++[c]) c=E.length:=Au.find_snoc (fun a b:Nat=>decide (a=b)) (fun s=>decide_eq_true rfl) E c h
  rw [h2,if_neg (by rw [List.length_append];simp)]
 ·rw [if_neg e]
  unfold plN
  by_cases h1:Au.idxN E c<E.length
  ·have h2:Au.idxN (E++[b]) c=Au.idxN E c:=Au.find_append (fun a b:Nat=>decide (a=b)) E [b] c h1
   rw [h2,if_neg (by rw [List.length_append];simp;omega),if_neg (by omega)]
  ·have h3:=Au.idxN_le E c
   have h4:Au.idxN (E++[b]) c=(E++[b]).length:=by
    have h5:=Au.idxN_le (E++[b]) c
    rcases Nat.lt_or_ge (Au.idxN (E++[b]) c) (E++[b]).length with q | q
    ·exfalso
     have h6:=Au.find_hit (fun a b:Nat=>decide (a=b)) (E++[b]) c q
     have h6:=of_decide_eq_true h6
     by_cases q2:Au.idxN (E++[b]) c<E.length
     ·have e2:(E++[b])[Au.idxN (E++[b]) c]=E[Au.idxN (E++[b]) c]:=List.getElem_append_left q2
      obtain ⟨_,h7⟩:=Au.find_miss (fun a b:Nat=>decide (a=b)) E c (Au.idxN (E++[b]) c) (by show _<Au.idxN E c;omega)
      have h7:=of_decide_eq_false h7
      exact h7 (e2 ▸ h6)
     ·have e3:Au.idxN (E++[b]) c=E.length:=by simp at q;omega
      have e2:(E++[b])[Au.idxN (E++[b]) c]=b:=by simp [e3]
      exact e (by rw [←h6];exact e2)
    ·omega
   rw [h4,if_pos rfl,if_pos (by omega)]
def MapN (w:World) (mb:Nat) (E:List Nat):Prop:=∃F,MapG 3 w mb E.length F∧∀s,F (keyN s)=plN E s
theorem mapN_new {w:World} {mb:Nat} {E:List Nat} {F:Lit→Option Value} {b:Nat} (h:MapG 3 w mb (E.length+1) (updG F (keyN b) (some (.int .i64 (E.length:Int))))) (hF:∀s,F (keyN s)=plN E s) (hb:Au.idxN E b=E.length):MapN w mb (E++[b]):=by
 refine ⟨_,by rw [List.length_append];exact h,fun s=>?_⟩
 rw [plN_snoc hb]
 by_cases e:s=b
 ·rw [if_pos e,e,updG_same]
 ·rw [if_neg e,updG_other _ _ _ _ fun h=>e (keyN_inj h)]
  exact hF s
structure TN (w:World) (mb:Nat) (κ:Nat→Nat) (vt:Value) (E:List Nat):Prop where
 texts:RowC κ 2 w 3 1 vt E.length (natsV E)
 map:MapN w mb E
 col:κ mb=3
theorem TN.lt {w:World} {mb:Nat} {κ:Nat→Nat} {vt:Value} {E:List Nat} (h:TN w mb κ vt E):mb<w.heap.size:=by
 obtain ⟨F,hm,_⟩:=h.map
 exact hm.lt
theorem TN.step {w w':World} {mb c:Nat} {κ κ':Nat→Nat} {vt:Value} {E:List Nat} (h:TN w mb κ vt E) (hs:Step κ c w w' κ') (h2:2≠c) (h3:3≠c):TN w' mb κ' vt E:=by
 obtain ⟨F,hm,hF⟩:=h.map
 have hl:=hm.lt
 exact ⟨h.texts.step hs h2,⟨F,hm.keep (hs.block mb hl (by rw [h.col];exact h3)),hF⟩,by rw [hs.col mb hl];exact h.col⟩
theorem Base.step {w0 w w':World} {κ κ':Nat→Nat} {c:Nat} (h:Base w0 w κ) (hs:Step κ c w w' κ') (hc:c≠0):Base w0 w' κ':=h.pst (Pst.of_step hs (by unfold O0;exact hc))
def ApartL (L:List (Bool × Value)):Prop:=∀j k (hj:j<L.length) (hk:k<L.length),j≠k→∀g,L[j].2.ownBlock=some g→L[k].2.ownBlock≠some g
structure No (w0 w:World) (mb:Nat) (κ:Nat→Nat) (vt vo:Value) (E:List Nat) (L:List (Bool × Value)) (out:List Au.St):Prop where
 bs:Base w0 w κ
 tm:TN w mb κ vt E
 ot:OT w κ vo L out
 ap:ApartL L
structure Ni (w0 w:World) (mb sb:Nat) (κ:Nat→Nat) (vt vo va:Value) (E:List Nat) (L:List (Bool × Value)) (out:List Au.St) (fin:Bool) (arcs:List Au.Arc):Prop where
 bs:Base w0 w κ
 tm:TN w mb κ vt E
 ot:OT w κ vo L out
 ap:ApartL L
 cs:CS w sb κ va fin arcs
section
variable {w0 w w':World} {mb sb:Nat} {κ κ':Nat→Nat} {vt vo va:Value} {E:List Nat} {L:List (Bool × Value)} {out:List Au.St} {fin:Bool} {arcs:List Au.Arc}
theorem No.step {c:Nat} (h:No w0 w mb κ vt vo E L out) (hs:Step κ c w w' κ') (hc:6≤c):No w0 w' mb κ' vt vo E L out:=
 ⟨h.bs.step hs (by omega),h.tm.step hs (by omega) (by omega),h.ot.step hs (by omega) (by omega),h.ap⟩
theorem No.open (h:No w0 w mb κ vt vo E L out) (fin:Bool):
  Ni w0 (w.alloc (.cells #[.bool fin,.slice none 0 0] 61)) mb w.heap.size (paint κ w.heap.size 7) vt vo (.slice none 0 0) E L out fin []:=by
 have hs:Step κ 7 w (w.alloc (.cells #[.bool fin,.slice none 0 0] 61)) (paint κ w.heap.size 7):=Step.of_alloc w _
 obtain ⟨h1,h2,h3,h4⟩:=h.step hs (by decide)
 exact ⟨h1,h2,h3,h4,⟨Go.Deep.blk_alloc_new _ _,paint_new _ _ _ _ (Nat.le_refl _),RowC.nil _ _ _ _ _⟩⟩
theorem Ni.step {c:Nat} (h:Ni w0 w mb sb κ vt vo va E L out fin arcs) (hs:Step κ c w w' κ') (hc:9≤c):Ni w0 w' mb sb κ' vt vo va E L out fin arcs:=
 ⟨h.bs.step hs (by omega),h.tm.step hs (by omega) (by omega),h.ot.step hs (by omega) (by omega),h.ap,h.cs.step hs (by omega) (by omega)⟩
theorem Ni.drew (h:Ni w0 w mb sb κ vt vo va E L out fin arcs):Ni w0 w.drew mb sb κ vt vo va E L out fin arcs:=by
 obtain ⟨F,hm,hF⟩:=h.tm.map
 exact ⟨⟨h.bs.below.drew,h.bs.old⟩,⟨h.tm.texts.drew,⟨F,hm.keep rfl,hF⟩,h.tm.col⟩,⟨h.ot.outs.drew,h.ot.len,fun j a b=>⟨(h.ot.each j a b).1,(h.ot.each j a b).2.drew⟩⟩,h.ap,⟨h.cs.row,h.cs.col,h.cs.arcs.drew⟩⟩
theorem No.drew (h:No w0 w mb κ vt vo E L out):No w0 w.drew mb κ vt vo E L out:=by
 obtain ⟨F,hm,hF⟩:=h.tm.map
 exact ⟨⟨h.bs.below.drew,h.bs.old⟩,⟨h.tm.texts.drew,⟨F,hm.keep rfl,hF⟩,h.tm.col⟩,⟨h.ot.outs.drew,h.ot.len,fun j a b=>⟨(h.ot.each j a b).1,(h.ot.each j a b).2.drew⟩⟩,h.ap⟩
theorem Ni.place (h:Ni w0 w mb sb κ vt vo va E L out fin arcs) (hg:w.grownBy w' (some mb)):
  Step κ 3 w w' (paint κ w.heap.size 3)∧RowC (paint κ w.heap.size 3) 2 w' 3 1 vt E.length (natsV E):=
 have hs:Step κ 3 w w' (paint κ w.heap.size 3):=Step.of_grown hg h.tm.col
 ⟨hs,h.tm.texts.step hs (by decide)⟩
theorem Ni.push {b:Nat} {w2:World} {vt':Value} (h:Ni w0 w mb sb κ vt vo va E L out fin arcs) (hm:MapN w' mb (E++[b])) (hs:Step κ 3 w w' κ')
  (hr:RowC (paint κ' w'.heap.size 2) 2 w2 3 1 vt' (E.length+1) (natsV E++[.int .i64 (b:Int)])) (hs2:Step κ' 2 w' w2 (paint κ' w'.heap.size 2)):Ni w0 w2 mb sb (paint κ' w'.heap.size 2) vt' vo va (E++[b]) L out fin arcs:=by
 obtain ⟨F,hmm,hF⟩:=hm
 have hl:=h.tm.lt
 have hc:κ' mb=3:=by rw [hs.col mb hl];exact h.tm.col
 have hl':mb<w'.heap.size:=Nat.lt_of_lt_of_le hl hs.size
 refine ⟨(h.bs.step hs (by decide)).step hs2 (by decide),⟨?_,⟨F,hmm.keep (hs2.block mb hl' (by rw [hc];decide)),hF⟩,by rw [hs2.col mb hl'];exact hc⟩,(h.ot.step hs (by decide) (by decide)).step hs2 (by decide) (by decide),h.ap,(h.cs.step hs (by decide) (by decide)).step hs2 (by decide) (by decide)⟩
 rw [←natsV_snoc,List.length_append]
 exact hr
theorem Ni.grow {va':Value} {arcs':List Au.Arc} (h:Ni w0 w mb sb κ vt vo va E L out fin arcs) (h2:Ap.Two w w' va va') (ha:OwnA w' 0 va' arcs'):
  (w'.cell? ⟨sb,1,none⟩=some va∧w'.frozen? ⟨sb,1,none⟩=false)∧Ni w0 (w'.setCell ⟨sb,1,none⟩ va') mb sb (paint κ w.heap.size 6) vt vo va' E L out fin arcs':=by
 have hs:Step κ 6 w w' (paint κ w.heap.size 6):=Step.of_two h2 fun b hb=>h.cs.arcs.col b hb
 have hsb:=h.cs.lt
 have hrow:w'.heap[sb]?=some (.cells #[.bool fin,va] 61 (0,0)):=(hs.block sb hsb (by rw [h.cs.col];decide)).trans h.cs.row
 have hcol:paint κ w.heap.size 6 sb=7:=by rw [paint_old _ _ _ _ hsb];exact h.cs.col
 have hs2:Step (paint κ w.heap.size 6) 7 w' (w'.setCell ⟨sb,1,none⟩ va') (paint κ w.heap.size 6):=Step.of_set w' sb 1 va' hcol
 have har:RowC (paint κ w.heap.size 6) 6 w' 71 3 va' arcs'.length (arcsV arcs'):=⟨ha,Two.col h2 fun b hb=>h.cs.arcs.lt b hb⟩
 refine ⟨⟨by simp [World.cell?,hrow],by simp [World.frozen?,hrow]⟩,(h.bs.step hs (by decide)).step hs2 (by decide),(h.tm.step hs (by decide) (by decide)).step hs2 (by decide) (by decide),(h.ot.step hs (by decide) (by decide)).step hs2 (by decide) (by decide),h.ap,⟨?_,hcol,har.step hs2 (by decide)⟩⟩
 rw [setCell_eq_setRow w' sb 1 _ _ _ _ hrow]
 exact setRow_heap w' sb _ _ _ _ hrow
theorem Ni.close {vo':Value} (h:Ni w0 w mb sb κ vt vo va E L out fin arcs) (hr:RowC (paint κ w.heap.size 4) 4 w' 61 2 vo' (L.length+1) (stsV L++[.bool fin,va])) (hs:Step κ 4 w w' (paint κ w.heap.size 4)):
  No w0 w' mb (fun k=>if paint κ w.heap.size 4 k=6 then 5 else paint κ w.heap.size 4 k) vt vo' E (L++[(fin,va)]) (out++[⟨fin,arcs⟩]):=by
 have recol:∀ {c:Nat} {e:TypeId} {z:Nat} {v:Value} {n:Nat} {xs:List Value},RowC (paint κ w.heap.size 4) c w' e z v n xs→c≠6→RowC (fun k=>if paint κ w.heap.size 4 k=6 then 5 else paint κ w.heap.size 4 k) c w' e z v n xs:=fun {c e z v n xs} hr hc=>
  ⟨hr.own,fun b hb=>by show (if _ then _ else _)=_;rw [hr.col b hb,if_neg hc]⟩
 have hb:=h.bs.step hs (by decide)
 have ht:=h.tm.step hs (by decide) (by decide)
 have hl:=h.ot.len
 refine ⟨⟨hb.below,fun k hk=>by show (if _ then _ else _)=_;rw [hb.old k hk,if_neg (by decide)]⟩,⟨recol ht.texts (by decide),ht.map,by show (if _ then _ else _)=_;rw [ht.col,if_neg (by decide)]⟩,⟨?_,by simp [hl],fun j hj hj'=>?_⟩,fun j k hj hk hne g hg hgk=>?_⟩
 ·rw [←stsV_snoc L (fin,va),List.length_append]
  exact recol hr (by decide)
 ·by_cases e:j<L.length
  ·rw [List.getElem_append_left e,List.getElem_append_left (by omega)]
   exact ⟨(h.ot.each j e (by omega)).1,recol ((h.ot.each j e (by omega)).2.step hs (by decide)) (by decide)⟩
  ·have e':j=L.length:=by simp at hj;omega
   subst e'
   simp only [List.getElem_append_right (Nat.le_refl _),Nat.sub_self,List.getElem_cons_zero]
   have:(out++[(⟨fin,arcs⟩:Au.St)])[L.length]=⟨fin,arcs⟩:=by simp only [hl,List.getElem_append_right (Nat.le_refl _),Nat.sub_self,List.getElem_cons_zero]
   rw [this]
   refine ⟨rfl,(h.cs.arcs.step hs (by decide)).own,fun b hb=>?_⟩
   show (if _ then _ else _)=_
   rw [(h.cs.arcs.step hs (by decide)).col b hb,if_pos rfl]
 ·have key:∀j (hj:j<L.length) g,L[j].2.ownBlock=some g→κ g=5:=fun j hj g hg=>(h.ot.each j hj (by omega)).2.col g hg
  have hva:∀g,va.ownBlock=some g→κ g=6:=fun g hg=>h.cs.arcs.col g hg
  by_cases e1:j<L.length
  ·rw [List.getElem_append_left e1] at hg
   by_cases e2:k<L.length
   ·rw [List.getElem_append_left e2] at hgk
    exact h.ap j k e1 e2 hne g hg hgk
   ·have e':k=L.length:=by simp at hk;omega
    subst e'
    simp at hgk
    have h1:=key j e1 g hg
    have h2:=hva g hgk
    omega
  ·have e':j=L.length:=by simp at hj;omega
   subst e'
   simp at hg
   have e2:k<L.length:=by simp at hk;omega
   rw [List.getElem_append_left e2] at hgk
   have h1:=key k e2 g hgk
   have h2:=hva g hg
   omega
end
def StO (B:Nat) (w:World) (v:Value) (d:List Au.St):Prop:=
 ∃(vs:List Value) (a:Option Addr) (cap:Nat),vs.length=d.length∧v=.slice a d.length cap∧d.length≤cap∧cap≤9223372036854775807 ∧
  (0<d.length→∃g,a=some ⟨g,0,none⟩∧g<w.heap.size∧B≤g∧(∃cs fz,w.heap[g]?=some (.cells cs 61 fz))∧∀j (h:j<d.length) (h2:j<vs.length),w.cell? ⟨g,j*2,none⟩=some (.bool d[j].fin)∧w.cell? ⟨g,j*2+1,none⟩=some vs[j]) ∧
  (∀j (h:j<d.length) (h2:j<vs.length),OwnA w B vs[j] d[j].arcs)∧∀j k (hj:j<vs.length) (hk:k<vs.length),j≠k→∀g,vs[j].ownBlock=some g→vs[k].ownBlock≠some g
theorem StO.sts {B:Nat} {w:World} {v:Value} {d:List Au.St} (h:StO B w v d):StS (fun g=>B≤g) w v d:=by
 obtain ⟨vs,a,cap,h0,h1,h2,h3,h4,h5,_⟩:=h
 refine ⟨a,cap,h1,h2,h3,fun hp=>?_⟩
 obtain ⟨g,k1,k2,k3,_,k5⟩:=h4 hp
 refine ⟨g,0,k1,k2,k3,fun j hj=>?_⟩
 obtain ⟨t1,t2⟩:=k5 j hj (by omega)
 rw [Nat.zero_add]
 exact ⟨t1,vs[j]'(by omega),t2,(h5 j hj (by omega)).arcs _ fun g hg=>hg⟩
theorem ownA_base {w:World} {B C:Nat} {v:Value} {l:List Au.Arc} (h:OwnA w B v l) (hC:C≤B):OwnA w C v l:=ownsRow_base h hC
theorem StO.lower {B C:Nat} {w:World} {v:Value} {d:List Au.St} (h:StO B w v d) (hC:C≤B):StO C w v d:=by
 obtain ⟨vs,a,cap,h0,h1,h2,h3,h4,h5,h6⟩:=h
 refine ⟨vs,a,cap,h0,h1,h2,h3,fun hp=>?_,fun j hj hj2=>ownA_base (h5 j hj hj2) hC,h6⟩
 obtain ⟨g,k1,k2,k3,k4,k5⟩:=h4 hp
 exact ⟨g,k1,k2,by omega,k4,k5⟩
theorem StO.nil (B:Nat) (w:World):StO B w (.slice none 0 0) []:=⟨[],none,0,rfl,rfl,Nat.le_refl _,by omega,fun h=>by simp at h,fun j h=>by simp at h,fun j k h=>by simp at h⟩
theorem OT.sto {w:World} {κ:Nat→Nat} {vo:Value} {L:List (Bool × Value)} {out:List Au.St} {B:Nat} (h:OT w κ vo L out) (ha:ApartL L) (hB:∀g,g<w.heap.size→κ g=4∨κ g=5→B≤g):StO B w vo out:=by
 obtain ⟨a,cap,h1,h2,h3,h4⟩:=h.outs.form
 have hl:=h.len
 rw [hl] at h1 h2
 refine ⟨L.map Prod.snd,a,cap,by rw [List.length_map];exact hl,h1,h2,h3,fun h0=>?_,fun j hj hj2=>?_,fun j k hj hk hne g hg hgk=>?_⟩
 ·obtain ⟨g,h5,h6,h7,_,h8⟩:=h4 (by omega)
  have hkd:=h.outs.kind
  have hob:vo.ownBlock=some g:=by rw [h1,h5];rfl
  refine ⟨g,h5,h6,hB g h6 (.inl h7),hkd g hob,fun j hj hj2=>?_⟩
  obtain ⟨t1,_⟩:=h.each j (by omega) hj
  obtain ⟨c1,c2⟩:=stsV_at L j (by omega)
  rw [List.getElem_map]
  exact ⟨(h8 _ _ c1).trans (by rw [t1]),h8 _ _ c2⟩
 ·rw [List.getElem_map]
  have hr:=(h.each j (by omega) hj).2
  rcases hr.own.2 with ⟨e1,e0⟩ | ⟨g,c,cur,e1,eg,eh,r1,r2,r3,r4⟩
  ·exact ⟨hr.own.1,.inl ⟨e1,e0⟩⟩
  ·have hob:L[j].2.ownBlock=some g:=by rw [e1];rfl
   exact ⟨hr.own.1,.inr ⟨g,c,cur,e1,hB g (hr.lt g hob).1 (.inr (hr.lt g hob).2),eh,r1,r2,r3,r4⟩⟩
 ·rw [List.getElem_map] at hg hgk
  exact ha j k (by simpa using hj) (by simpa using hk) hne g hg hgk
end
end Go.Proofs.YtmdefnbpimfbgaaGreatDoor

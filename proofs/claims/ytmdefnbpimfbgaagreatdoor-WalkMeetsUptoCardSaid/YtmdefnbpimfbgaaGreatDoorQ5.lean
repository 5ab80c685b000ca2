/-
  Lemmas on automata, dictionaries and the walk over them, the program's calls and the given ones.
-/
import Derived.Test.YtmdefnbpimfbgaaGreatDoorQ4
set_option maxRecDepth 100000
set_option maxHeartbeats 16000000
namespace Go.Proofs.YtmdefnbpimfbgaaGreatDoor
section
open Go.RowKit
theorem Tryz.infoB:(Tryz.prog.info? 5).map (fun i=>(i.zero,i.size,i.bytes))=some (some (.int .u8 0),1,1):=by kernel_rfl
def bytesV (l:List UInt8):List Value:=l.map (fun c=>.int .u8 (c.toNat:Int))
theorem bytesV_snoc (l:List UInt8) (c:UInt8):bytesV l++[.int .u8 (c.toNat:Int)]=bytesV (l++[c]):=by simp [bytesV]
def OwnB (w:World) (B:Nat) (v:Value) (l:List UInt8):Prop:=w.ownsRow B 5 1 v l.length (bytesV l)
theorem own_conv {w:World} {B:Nat} {v:Value} {l:List UInt8} (h:OwnB w B v l):
  (convert 102 9 v).run Tryz.prog w=.ok (.string ⟨l.toArray⟩) w:=by
 have hown:w.ownsRow B 5 1 v l.length (bytesV l):=h
 rcases h.2 with ⟨rfl,h0⟩ | ⟨g,cap,cur,rfl,hg,hh,hnc,hcp,hcs,htake⟩
 ·obtain rfl:l=[]:=List.length_eq_zero_iff.1 h0
  rw [run_convert_bytes_string w 102 9 5 none 0 0 Tryz.underlying102 Tryz.underlying5 Tryz.underlying9]
  simp [Conv.bytesToString]
  rfl
 ·have hcells:∀j (hj:j<l.length),w.cell? ((⟨g,0,none⟩:Addr).add j)=some (.int .u8 (l[j].toNat:Int)):=fun j hj=>by
   rw [Addr.add_lit,Nat.zero_add,hown.cellAt j (by omega)]
   simp [bytesV,hj]
  exact run_convert_bytes_back (P:=Tryz.prog) w 102 9 5 ⟨g,0,none⟩ cap l Tryz.underlying102 Tryz.underlying5 Tryz.underlying9 hcells
theorem own_push {w wr w1:World} {B:Nat} {v v':Value} {l:List UInt8} {c:UInt8} {o:Obj} (hB:B≤wr.heap.size) (h:OwnB wr B v l) (hb:Below B w wr)
  (h1:w1.ownsRow B 5 1 v' (l.length+1) (bytesV l++[.int .u8 (c.toNat:Int)])) (hg:(wr.alloc o).grownBy w1 v.ownBlock):
  OwnB w1 B v' (l++[c])∧Below B w w1:=by
 have hown:wr.ownsRow B 5 1 v l.length (bytesV l):=h
 refine ⟨?_,(hb.alloc hB o).grown hg (by simp;omega) (fun j hj=>(hown.lt j hj).1)⟩
 unfold OwnB
 rw [bytesV_snoc] at h1
 simpa using h1
end
end Go.Proofs.YtmdefnbpimfbgaaGreatDoor

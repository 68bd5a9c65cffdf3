import Derived.Test.YtglejnkoojpelaaGreatMP6
import Derived.Laws.StructEq
import Derived.ProofKit
import Derived.OpenShut
import Derived.ChangeOld
import Derived.Below
import Derived.Deep.Slices
import Derived.Deep.MidRow
set_option maxRecDepth 100000
set_option maxHeartbeats 32000000
namespace Go.Proofs.YtglejnkoojpelaaGreat.Page
open Go.RowKit Gen
open Lib (hid)
theorem j3m (s:Int) (A:Option Addr) (n c:Nat) (u:Bs) (w:World) (h:BytesAt w A n c u) (hr:h8h s u=none):Calls Tryz.prog 164 #[.int .i64 s,.slice A n c] w (j5b s u w):=by
 have b0:Below w.heap.size w (w.alloc (.cells (pC 0) 103)):=(Below.refl _ _).alloc (Nat.le_refl _) _;have cR:=h3q s A n c u _ (h.below b0);rw [hr] at cR;have AR:=hid (show At (w.alloc (.cells (pC 0) 103)) w.heap.size (pC 0) from At.of_block (heap_alloc_last w _));have SZ:=hid (show w.heap.size<(w.alloc (.cells (pC 0) 103)).heap.size by simp);have B0:=hid b0;have HN:=hid hr;clear h b0 hr;unfold pC pgC at *
 go_enter Tryz.func164,Tryz.ntmps164
 go_wp2_with fail
 refine cR.mono ?_;rintro e w1 ⟨hb,rfl⟩;have AZ:=hid ((AR.out.below hb SZ.out).below ((Below.refl w1.heap.size w1).alloc (Nat.le_refl _) (.cells (pC 0) 103)) (Nat.lt_of_lt_of_le SZ.out hb.size));have BL:=hid ((B0.out.trans (hb.mono B0.out.size)).alloc (Nat.le_trans B0.out.size hb.size) (.cells (pC 0) 103));clear hb cR AR SZ B0;unfold pC pgC at AZ BL;have AZ:Hid (At (w1.alloc (.cells #[.int .i64 0,.slice none 0 0,.slice none 0 0,.slice none 0 0,.slice none 0 0,.int .i64 0,.int .u64 0,.int .i64 0,.int .i64 0,.int .i64 0,.int .i64 0] 103)) w.heap.size (pC 0)):=AZ
 have BL:Hid (Below w.heap.size w (w1.alloc (.cells #[.int .i64 0,.slice none 0 0,.slice none 0 0,.slice none 0 0,.slice none 0 0,.int .i64 0,.int .u64 0,.int .i64 0,.int .i64 0,.int .i64 0,.int .i64 0] 103))):=BL;have r0:(w1.alloc (.cells #[.int .i64 0,.slice none 0 0,.slice none 0 0,.slice none 0 0,.slice none 0 0,.int .i64 0,.int .u64 0,.int .i64 0,.int .i64 0,.int .i64 0,.int .i64 0] 103)).cell? ⟨w.heap.size,0,none⟩=some (.int .i64 0):=AZ.out.2.2 0 _ rfl
 have r1:(w1.alloc (.cells #[.int .i64 0,.slice none 0 0,.slice none 0 0,.slice none 0 0,.slice none 0 0,.int .i64 0,.int .u64 0,.int .i64 0,.int .i64 0,.int .i64 0,.int .i64 0] 103)).cell? ⟨w.heap.size,1,none⟩=some (.slice none 0 0):=AZ.out.2.2 1 _ rfl;have r2:(w1.alloc (.cells #[.int .i64 0,.slice none 0 0,.slice none 0 0,.slice none 0 0,.slice none 0 0,.int .i64 0,.int .u64 0,.int .i64 0,.int .i64 0,.int .i64 0,.int .i64 0] 103)).cell? ⟨w.heap.size,2,none⟩=some (.slice none 0 0):=AZ.out.2.2 2 _ rfl
 have r3:(w1.alloc (.cells #[.int .i64 0,.slice none 0 0,.slice none 0 0,.slice none 0 0,.slice none 0 0,.int .i64 0,.int .u64 0,.int .i64 0,.int .i64 0,.int .i64 0,.int .i64 0] 103)).cell? ⟨w.heap.size,3,none⟩=some (.slice none 0 0):=AZ.out.2.2 3 _ rfl;have r4:(w1.alloc (.cells #[.int .i64 0,.slice none 0 0,.slice none 0 0,.slice none 0 0,.slice none 0 0,.int .i64 0,.int .u64 0,.int .i64 0,.int .i64 0,.int .i64 0,.int .i64 0] 103)).cell? ⟨w.heap.size,4,none⟩=some (.slice none 0 0):=AZ.out.2.2 4 _ rfl
 have r5:(w1.alloc (.cells #[.int .i64 0,.slice none 0 0,.slice none 0 0,.slice none 0 0,.slice none 0 0,.int .i64 0,.int .u64 0,.int .i64 0,.int .i64 0,.int .i64 0,.int .i64 0] 103)).cell? ⟨w.heap.size,5,none⟩=some (.int .i64 0):=AZ.out.2.2 5 _ rfl;have r6:(w1.alloc (.cells #[.int .i64 0,.slice none 0 0,.slice none 0 0,.slice none 0 0,.slice none 0 0,.int .i64 0,.int .u64 0,.int .i64 0,.int .i64 0,.int .i64 0,.int .i64 0] 103)).cell? ⟨w.heap.size,6,none⟩=some (.int .u64 0):=AZ.out.2.2 6 _ rfl
 have r7:(w1.alloc (.cells #[.int .i64 0,.slice none 0 0,.slice none 0 0,.slice none 0 0,.slice none 0 0,.int .i64 0,.int .u64 0,.int .i64 0,.int .i64 0,.int .i64 0,.int .i64 0] 103)).cell? ⟨w.heap.size,7,none⟩=some (.int .i64 0):=AZ.out.2.2 7 _ rfl;have r8:(w1.alloc (.cells #[.int .i64 0,.slice none 0 0,.slice none 0 0,.slice none 0 0,.slice none 0 0,.int .i64 0,.int .u64 0,.int .i64 0,.int .i64 0,.int .i64 0,.int .i64 0] 103)).cell? ⟨w.heap.size,8,none⟩=some (.int .i64 0):=AZ.out.2.2 8 _ rfl
 have r9:(w1.alloc (.cells #[.int .i64 0,.slice none 0 0,.slice none 0 0,.slice none 0 0,.slice none 0 0,.int .i64 0,.int .u64 0,.int .i64 0,.int .i64 0,.int .i64 0,.int .i64 0] 103)).cell? ⟨w.heap.size,9,none⟩=some (.int .i64 0):=AZ.out.2.2 9 _ rfl;have r10:(w1.alloc (.cells #[.int .i64 0,.slice none 0 0,.slice none 0 0,.slice none 0 0,.slice none 0 0,.int .i64 0,.int .u64 0,.int .i64 0,.int .i64 0,.int .i64 0,.int .i64 0] 103)).cell? ⟨w.heap.size,10,none⟩=some (.int .i64 0):=AZ.out.2.2 10 _ rfl
 have fz:=AZ.out.2.1;have A3:=hid (g2y AZ.out (.int .i64 0) (.slice none 0 0) (.slice none 0 0) (.slice none 0 0) (.slice none 0 0) (.int .i64 0) (.int .u64 0) (.int .i64 0) (.int .i64 0) (.int .i64 0) (.int .i64 0));have B3:=hid (BL.out.grown (g1f (w1.alloc (.cells #[.int .i64 0,.slice none 0 0,.slice none 0 0,.slice none 0 0,.slice none 0 0,.int .i64 0,.int .u64 0,.int .i64 0,.int .i64 0,.int .i64 0,.int .i64 0] 103)) w.heap.size (.int .i64 0) (.slice none 0 0) (.slice none 0 0) (.slice none 0 0) (.slice none 0 0) (.int .i64 0) (.int .u64 0) (.int .i64 0) (.int .i64 0) (.int .i64 0) (.int .i64 0)) BL.out.size (fun k hk=>by cases hk;omega))
 go_wp2_with fail
 change bodyPost _ _ _ _ _ (g1o (w1.alloc (.cells #[.int .i64 0,.slice none 0 0,.slice none 0 0,.slice none 0 0,.slice none 0 0,.int .i64 0,.int .u64 0,.int .i64 0,.int .i64 0,.int .i64 0,.int .i64 0] 103)) w.heap.size (.int .i64 0) (.slice none 0 0) (.slice none 0 0) (.slice none 0 0) (.slice none 0 0) (.int .i64 0) (.int .u64 0) (.int .i64 0) (.int .i64 0) (.int .i64 0) (.int .i64 0));generalize g1o (w1.alloc (.cells #[.int .i64 0,.slice none 0 0,.slice none 0 0,.slice none 0 0,.slice none 0 0,.int .i64 0,.int .u64 0,.int .i64 0,.int .i64 0,.int .i64 0,.int .i64 0] 103)) w.heap.size (.int .i64 0) (.slice none 0 0) (.slice none 0 0) (.slice none 0 0) (.slice none 0 0) (.int .i64 0) (.int .u64 0) (.int .i64 0) (.int .i64 0) (.int .i64 0) (.int .i64 0)=W9 at *
 clear r0 r1 r2 r3 r4 r5 r6 r7 r8 r9 r10 fz;have c0:W9.cell? ⟨w.heap.size,0,none⟩=some (.int .i64 0):=A3.out.2.2 0 _ rfl;have c1:W9.cell? ⟨w.heap.size,1,none⟩=some (.slice none 0 0):=A3.out.2.2 1 _ rfl;have c2:W9.cell? ⟨w.heap.size,2,none⟩=some (.slice none 0 0):=A3.out.2.2 2 _ rfl;have c3:W9.cell? ⟨w.heap.size,3,none⟩=some (.slice none 0 0):=A3.out.2.2 3 _ rfl;have c4:W9.cell? ⟨w.heap.size,4,none⟩=some (.slice none 0 0):=A3.out.2.2 4 _ rfl
 have c5:W9.cell? ⟨w.heap.size,5,none⟩=some (.int .i64 0):=A3.out.2.2 5 _ rfl;have c6:W9.cell? ⟨w.heap.size,6,none⟩=some (.int .u64 0):=A3.out.2.2 6 _ rfl;have c7:W9.cell? ⟨w.heap.size,7,none⟩=some (.int .i64 0):=A3.out.2.2 7 _ rfl;have c8:W9.cell? ⟨w.heap.size,8,none⟩=some (.int .i64 0):=A3.out.2.2 8 _ rfl;have c9:W9.cell? ⟨w.heap.size,9,none⟩=some (.int .i64 0):=A3.out.2.2 9 _ rfl;have c10:W9.cell? ⟨w.heap.size,10,none⟩=some (.int .i64 0):=A3.out.2.2 10 _ rfl
 refine bodyPost_ret (v:=.tuple #[pgV {kind:=0} {},numV 50]) (by simp [results,Tryz.results164,go_sem, *]) rfl ?_;exact ⟨B3.out,.inr ⟨rfl,fun p g=>by have:=HN.out.symm.trans g.1;cases this⟩⟩
theorem j2o (s:Int) (A:Option Addr) (n c:Nat) (u:Bs) (w:World) (h:BytesAt w A n c u) (p:Pg) (hr:h8h s u=some p):Calls Tryz.prog 164 #[.int .i64 s,.slice A n c] w (j5b s u w):=by
 have b0:Below w.heap.size w (w.alloc (.cells (pC 0) 103)):=(Below.refl _ _).alloc (Nat.le_refl _) _;have cR:=h3q s A n c u _ (h.below b0);rw [hr] at cR;have AR:=hid (show At (w.alloc (.cells (pC 0) 103)) w.heap.size (pC 0) from At.of_block (heap_alloc_last w _));have SZ:=hid (show w.heap.size<(w.alloc (.cells (pC 0) 103)).heap.size by simp);have B0:=hid b0;have HN:=hid hr;have HH:=hid h;clear h b0 hr
 unfold pC pgC at *;go_enter Tryz.func164,Tryz.ntmps164
 go_wp2_with fail
 refine cR.mono ?_;rintro e w1 ⟨hb,a,rfl,hrows,hok,hnew⟩;have hb1:=B0.out.trans (hb.mono B0.out.size);have hal:Below w1.heap.size w1 (w1.alloc (.cells (pgC p a) 103)):=(Below.refl _ _).alloc (Nat.le_refl _) _;have AZ1:=hid ((AR.out.below hb SZ.out).below hal (Nat.lt_of_lt_of_le SZ.out hb.size));have AP1:=hid (show At (w1.alloc (.cells (pgC p a) 103)) w1.heap.size (pgC p a) from At.of_block (heap_alloc_last w1 _))
 have BL1:=hid (hb1.trans (hal.mono hb1.size));have RW1:=hid (hrows.below hal);have OK:=hid hok;have SZ1:=hid (show w.heap.size<(w1.alloc (.cells (pgC p a) 103)).heap.size/\w1.heap.size<(w1.alloc (.cells (pgC p a) 103)).heap.size/\w.heap.size<w1.heap.size by have:=SZ.out;have:=hb.size;simp at *;omega);have NW:=hid (hnew.mono (show w.heap.size+1<=_ by simp));have cE:=h1x s p a _ hok RW1.out;clear hb hrows hok hb1 hal cR AR SZ B0 hnew
 unfold pC pgC at *;go_wp2_with fail
 refine cE.mono ?_;rintro e w2 (⟨A2,n2,c2',l,rfl,hby,henc,hb⟩ | ⟨rfl,hno,hb⟩)
 rotate_left
 ·have AZ:=hid (AZ1.out.below hb SZ1.out.1);have BL:=hid (BL1.out.trans (hb.mono BL1.out.size));have HE:=hid hno;clear hb hno cE AZ1 AP1 BL1;have r0:w2.cell? ⟨w.heap.size,0,none⟩=some (.int .i64 0):=AZ.out.2.2 0 _ rfl;have r1:w2.cell? ⟨w.heap.size,1,none⟩=some (.slice none 0 0):=AZ.out.2.2 1 _ rfl;have r2:w2.cell? ⟨w.heap.size,2,none⟩=some (.slice none 0 0):=AZ.out.2.2 2 _ rfl;have r3:w2.cell? ⟨w.heap.size,3,none⟩=some (.slice none 0 0):=AZ.out.2.2 3 _ rfl
  have r4:w2.cell? ⟨w.heap.size,4,none⟩=some (.slice none 0 0):=AZ.out.2.2 4 _ rfl;have r5:w2.cell? ⟨w.heap.size,5,none⟩=some (.int .i64 0):=AZ.out.2.2 5 _ rfl;have r6:w2.cell? ⟨w.heap.size,6,none⟩=some (.int .u64 0):=AZ.out.2.2 6 _ rfl;have r7:w2.cell? ⟨w.heap.size,7,none⟩=some (.int .i64 0):=AZ.out.2.2 7 _ rfl;have r8:w2.cell? ⟨w.heap.size,8,none⟩=some (.int .i64 0):=AZ.out.2.2 8 _ rfl;have r9:w2.cell? ⟨w.heap.size,9,none⟩=some (.int .i64 0):=AZ.out.2.2 9 _ rfl
  have r10:w2.cell? ⟨w.heap.size,10,none⟩=some (.int .i64 0):=AZ.out.2.2 10 _ rfl;have fz:=AZ.out.2.1;have A3:=hid (g2y AZ.out (.int .i64 0) (.slice none 0 0) (.slice none 0 0) (.slice none 0 0) (.slice none 0 0) (.int .i64 0) (.int .u64 0) (.int .i64 0) (.int .i64 0) (.int .i64 0) (.int .i64 0));have B3:=hid (BL.out.grown (g1f w2 w.heap.size (.int .i64 0) (.slice none 0 0) (.slice none 0 0) (.slice none 0 0) (.slice none 0 0) (.int .i64 0) (.int .u64 0) (.int .i64 0) (.int .i64 0) (.int .i64 0) (.int .i64 0)) BL.out.size (fun k hk=>by cases hk;omega))
  go_wp2_with fail
  change bodyPost _ _ _ _ _ (g1o w2 w.heap.size (.int .i64 0) (.slice none 0 0) (.slice none 0 0) (.slice none 0 0) (.slice none 0 0) (.int .i64 0) (.int .u64 0) (.int .i64 0) (.int .i64 0) (.int .i64 0) (.int .i64 0));generalize g1o w2 w.heap.size (.int .i64 0) (.slice none 0 0) (.slice none 0 0) (.slice none 0 0) (.slice none 0 0) (.int .i64 0) (.int .u64 0) (.int .i64 0) (.int .i64 0) (.int .i64 0) (.int .i64 0)=W9 at *
  clear r0 r1 r2 r3 r4 r5 r6 r7 r8 r9 r10 fz;have c0:W9.cell? ⟨w.heap.size,0,none⟩=some (.int .i64 0):=A3.out.2.2 0 _ rfl;have c1:W9.cell? ⟨w.heap.size,1,none⟩=some (.slice none 0 0):=A3.out.2.2 1 _ rfl;have c2:W9.cell? ⟨w.heap.size,2,none⟩=some (.slice none 0 0):=A3.out.2.2 2 _ rfl;have c3:W9.cell? ⟨w.heap.size,3,none⟩=some (.slice none 0 0):=A3.out.2.2 3 _ rfl;have c4:W9.cell? ⟨w.heap.size,4,none⟩=some (.slice none 0 0):=A3.out.2.2 4 _ rfl
  have c5:W9.cell? ⟨w.heap.size,5,none⟩=some (.int .i64 0):=A3.out.2.2 5 _ rfl;have c6:W9.cell? ⟨w.heap.size,6,none⟩=some (.int .u64 0):=A3.out.2.2 6 _ rfl;have c7:W9.cell? ⟨w.heap.size,7,none⟩=some (.int .i64 0):=A3.out.2.2 7 _ rfl;have c8:W9.cell? ⟨w.heap.size,8,none⟩=some (.int .i64 0):=A3.out.2.2 8 _ rfl;have c9:W9.cell? ⟨w.heap.size,9,none⟩=some (.int .i64 0):=A3.out.2.2 9 _ rfl;have c10:W9.cell? ⟨w.heap.size,10,none⟩=some (.int .i64 0):=A3.out.2.2 10 _ rfl
  refine bodyPost_ret (v:=.tuple #[pgV {kind:=0} {},numV 50]) (by simp [results,Tryz.results164,go_sem, *]) rfl ?_;exact ⟨B3.out,.inr ⟨rfl,fun q g=>by have e:=HN.out.symm.trans g.1;cases e;exact HE.out _ g.2⟩⟩
 ·have AZ:=hid (AZ1.out.below hb SZ1.out.1);have AP:=hid (AP1.out.below hb SZ1.out.2.1);have BL:=hid (BL1.out.trans (hb.mono BL1.out.size));have RW:=hid (RW1.out.below hb);have HE:=hid henc;have cQ:=h0u A2 A n2 c2' n c l u w2 hby.len HH.out.len hby.row (RowG.below HH.out.row BL.out);have HB:=hid hb.size;clear hb henc hby cE AZ1 AP1 BL1 RW1;go_wp2_with fail
  refine cQ.mono ?_;rintro e w' ⟨r,rfl,hq,rfl⟩;rcases r with _ | _
  ·have HQ:=hid hq;clear hq cQ;have r0:w2.cell? ⟨w.heap.size,0,none⟩=some (.int .i64 0):=AZ.out.2.2 0 _ rfl;have r1:w2.cell? ⟨w.heap.size,1,none⟩=some (.slice none 0 0):=AZ.out.2.2 1 _ rfl;have r2:w2.cell? ⟨w.heap.size,2,none⟩=some (.slice none 0 0):=AZ.out.2.2 2 _ rfl;have r3:w2.cell? ⟨w.heap.size,3,none⟩=some (.slice none 0 0):=AZ.out.2.2 3 _ rfl;have r4:w2.cell? ⟨w.heap.size,4,none⟩=some (.slice none 0 0):=AZ.out.2.2 4 _ rfl
   have r5:w2.cell? ⟨w.heap.size,5,none⟩=some (.int .i64 0):=AZ.out.2.2 5 _ rfl;have r6:w2.cell? ⟨w.heap.size,6,none⟩=some (.int .u64 0):=AZ.out.2.2 6 _ rfl;have r7:w2.cell? ⟨w.heap.size,7,none⟩=some (.int .i64 0):=AZ.out.2.2 7 _ rfl;have r8:w2.cell? ⟨w.heap.size,8,none⟩=some (.int .i64 0):=AZ.out.2.2 8 _ rfl;have r9:w2.cell? ⟨w.heap.size,9,none⟩=some (.int .i64 0):=AZ.out.2.2 9 _ rfl;have r10:w2.cell? ⟨w.heap.size,10,none⟩=some (.int .i64 0):=AZ.out.2.2 10 _ rfl
   have fz:=AZ.out.2.1;have A3:=hid (g2y AZ.out (.int .i64 0) (.slice none 0 0) (.slice none 0 0) (.slice none 0 0) (.slice none 0 0) (.int .i64 0) (.int .u64 0) (.int .i64 0) (.int .i64 0) (.int .i64 0) (.int .i64 0));have B3:=hid (BL.out.grown (g1f w2 w.heap.size (.int .i64 0) (.slice none 0 0) (.slice none 0 0) (.slice none 0 0) (.slice none 0 0) (.int .i64 0) (.int .u64 0) (.int .i64 0) (.int .i64 0) (.int .i64 0) (.int .i64 0)) BL.out.size (fun k hk=>by cases hk;omega))
   go_wp2_with fail
   change bodyPost _ _ _ _ _ (g1o w2 w.heap.size (.int .i64 0) (.slice none 0 0) (.slice none 0 0) (.slice none 0 0) (.slice none 0 0) (.int .i64 0) (.int .u64 0) (.int .i64 0) (.int .i64 0) (.int .i64 0) (.int .i64 0));generalize g1o w2 w.heap.size (.int .i64 0) (.slice none 0 0) (.slice none 0 0) (.slice none 0 0) (.slice none 0 0) (.int .i64 0) (.int .u64 0) (.int .i64 0) (.int .i64 0) (.int .i64 0) (.int .i64 0)=W9 at *
   clear r0 r1 r2 r3 r4 r5 r6 r7 r8 r9 r10 fz;have c0:W9.cell? ⟨w.heap.size,0,none⟩=some (.int .i64 0):=A3.out.2.2 0 _ rfl;have c1:W9.cell? ⟨w.heap.size,1,none⟩=some (.slice none 0 0):=A3.out.2.2 1 _ rfl;have c2:W9.cell? ⟨w.heap.size,2,none⟩=some (.slice none 0 0):=A3.out.2.2 2 _ rfl;have c3:W9.cell? ⟨w.heap.size,3,none⟩=some (.slice none 0 0):=A3.out.2.2 3 _ rfl;have c4:W9.cell? ⟨w.heap.size,4,none⟩=some (.slice none 0 0):=A3.out.2.2 4 _ rfl
   have c5:W9.cell? ⟨w.heap.size,5,none⟩=some (.int .i64 0):=A3.out.2.2 5 _ rfl;have c6:W9.cell? ⟨w.heap.size,6,none⟩=some (.int .u64 0):=A3.out.2.2 6 _ rfl;have c7:W9.cell? ⟨w.heap.size,7,none⟩=some (.int .i64 0):=A3.out.2.2 7 _ rfl;have c8:W9.cell? ⟨w.heap.size,8,none⟩=some (.int .i64 0):=A3.out.2.2 8 _ rfl;have c9:W9.cell? ⟨w.heap.size,9,none⟩=some (.int .i64 0):=A3.out.2.2 9 _ rfl;have c10:W9.cell? ⟨w.heap.size,10,none⟩=some (.int .i64 0):=A3.out.2.2 10 _ rfl
   refine bodyPost_ret (v:=.tuple #[pgV {kind:=0} {},numV 50]) (by simp [results,Tryz.results164,go_sem, *]) rfl ?_;exact ⟨B3.out,.inr ⟨rfl,fun q g=>by have e:=HN.out.symm.trans g.1;cases e;cases (HQ.out.2 (p1f HE.out g.2))⟩⟩
  ·obtain rfl:=hq.1 rfl;clear hq cQ;have c0:w2.cell? ⟨w1.heap.size,0,none⟩=some (.int .i64 p.kind):=AP.out.2.2 0 _ rfl;have c1:w2.cell? ⟨w1.heap.size,1,none⟩=some (.slice a.A1 p.pairs.length a.c1):=AP.out.2.2 1 _ rfl;have c2:w2.cell? ⟨w1.heap.size,2,none⟩=some (.slice a.A2 p.keys.length a.c2):=AP.out.2.2 2 _ rfl;have c3:w2.cell? ⟨w1.heap.size,3,none⟩=some (.slice a.A3 p.kids.length a.c3):=AP.out.2.2 3 _ rfl
   have c4:w2.cell? ⟨w1.heap.size,4,none⟩=some (.slice a.A4 p.pages.length a.c4):=AP.out.2.2 4 _ rfl;have c5:w2.cell? ⟨w1.heap.size,5,none⟩=some (.int .i64 p.next):=AP.out.2.2 5 _ rfl;have c6:w2.cell? ⟨w1.heap.size,6,none⟩=some (.int .u64 (p.epoch:Int)):=AP.out.2.2 6 _ rfl;have c7:w2.cell? ⟨w1.heap.size,7,none⟩=some (.int .i64 p.root):=AP.out.2.2 7 _ rfl;have c8:w2.cell? ⟨w1.heap.size,8,none⟩=some (.int .i64 p.depth):=AP.out.2.2 8 _ rfl
   have c9:w2.cell? ⟨w1.heap.size,9,none⟩=some (.int .i64 p.count):=AP.out.2.2 9 _ rfl;have c10:w2.cell? ⟨w1.heap.size,10,none⟩=some (.int .i64 p.high):=AP.out.2.2 10 _ rfl;have r0:w2.cell? ⟨w.heap.size,0,none⟩=some (.int .i64 0):=AZ.out.2.2 0 _ rfl;have r1:w2.cell? ⟨w.heap.size,1,none⟩=some (.slice none 0 0):=AZ.out.2.2 1 _ rfl;have r2:w2.cell? ⟨w.heap.size,2,none⟩=some (.slice none 0 0):=AZ.out.2.2 2 _ rfl
   have r3:w2.cell? ⟨w.heap.size,3,none⟩=some (.slice none 0 0):=AZ.out.2.2 3 _ rfl;have r4:w2.cell? ⟨w.heap.size,4,none⟩=some (.slice none 0 0):=AZ.out.2.2 4 _ rfl;have r5:w2.cell? ⟨w.heap.size,5,none⟩=some (.int .i64 0):=AZ.out.2.2 5 _ rfl;have r6:w2.cell? ⟨w.heap.size,6,none⟩=some (.int .u64 0):=AZ.out.2.2 6 _ rfl;have r7:w2.cell? ⟨w.heap.size,7,none⟩=some (.int .i64 0):=AZ.out.2.2 7 _ rfl;have r8:w2.cell? ⟨w.heap.size,8,none⟩=some (.int .i64 0):=AZ.out.2.2 8 _ rfl
   have r9:w2.cell? ⟨w.heap.size,9,none⟩=some (.int .i64 0):=AZ.out.2.2 9 _ rfl;have r10:w2.cell? ⟨w.heap.size,10,none⟩=some (.int .i64 0):=AZ.out.2.2 10 _ rfl;have fz:=AZ.out.2.1;have A3:=hid (g2y AZ.out (.int .i64 p.kind) (.slice a.A1 p.pairs.length a.c1) (.slice a.A2 p.keys.length a.c2) (.slice a.A3 p.kids.length a.c3) (.slice a.A4 p.pages.length a.c4) (.int .i64 p.next) (.int .u64 (p.epoch:Int)) (.int .i64 p.root) (.int .i64 p.depth) (.int .i64 p.count) (.int .i64 p.high))
   have g3:=g1f w2 w.heap.size (.int .i64 p.kind) (.slice a.A1 p.pairs.length a.c1) (.slice a.A2 p.keys.length a.c2) (.slice a.A3 p.kids.length a.c3) (.slice a.A4 p.pages.length a.c4) (.int .i64 p.next) (.int .u64 (p.epoch:Int)) (.int .i64 p.root) (.int .i64 p.depth) (.int .i64 p.count) (.int .i64 p.high);have B3:=hid (BL.out.grown g3 BL.out.size (fun k hk=>by cases hk;omega));have NB:=hid (RW.out.apart g3 NW.out (by omega))
   clear g3;go_wp2_with fail
   change bodyPost _ _ _ _ _ (g1o w2 w.heap.size (.int .i64 p.kind) (.slice a.A1 p.pairs.length a.c1) (.slice a.A2 p.keys.length a.c2) (.slice a.A3 p.kids.length a.c3) (.slice a.A4 p.pages.length a.c4) (.int .i64 p.next) (.int .u64 (p.epoch:Int)) (.int .i64 p.root) (.int .i64 p.depth) (.int .i64 p.count) (.int .i64 p.high));generalize g1o w2 w.heap.size (.int .i64 p.kind) (.slice a.A1 p.pairs.length a.c1) (.slice a.A2 p.keys.length a.c2) (.slice a.A3 p.kids.length a.c3) (.slice a.A4 p.pages.length a.c4) (.int .i64 p.next) (.int .u64 (p.epoch:Int)) (.int .i64 p.root) (.int .i64 p.depth) (.int .i64 p.count) (.int .i64 p.high)=W9 at *
   clear r0 r1 r2 r3 r4 r5 r6 r7 r8 r9 r10 c0 c1 c2 c3 c4 c5 c6 c7 c8 c9 c10 fz;have c0:W9.cell? ⟨w.heap.size,0,none⟩=some (.int .i64 p.kind):=A3.out.2.2 0 _ rfl;have c1:W9.cell? ⟨w.heap.size,1,none⟩=some (.slice a.A1 p.pairs.length a.c1):=A3.out.2.2 1 _ rfl;have c2:W9.cell? ⟨w.heap.size,2,none⟩=some (.slice a.A2 p.keys.length a.c2):=A3.out.2.2 2 _ rfl;have c3:W9.cell? ⟨w.heap.size,3,none⟩=some (.slice a.A3 p.kids.length a.c3):=A3.out.2.2 3 _ rfl
   have c4:W9.cell? ⟨w.heap.size,4,none⟩=some (.slice a.A4 p.pages.length a.c4):=A3.out.2.2 4 _ rfl;have c5:W9.cell? ⟨w.heap.size,5,none⟩=some (.int .i64 p.next):=A3.out.2.2 5 _ rfl;have c6:W9.cell? ⟨w.heap.size,6,none⟩=some (.int .u64 (p.epoch:Int)):=A3.out.2.2 6 _ rfl;have c7:W9.cell? ⟨w.heap.size,7,none⟩=some (.int .i64 p.root):=A3.out.2.2 7 _ rfl;have c8:W9.cell? ⟨w.heap.size,8,none⟩=some (.int .i64 p.depth):=A3.out.2.2 8 _ rfl
   have c9:W9.cell? ⟨w.heap.size,9,none⟩=some (.int .i64 p.count):=A3.out.2.2 9 _ rfl;have c10:W9.cell? ⟨w.heap.size,10,none⟩=some (.int .i64 p.high):=A3.out.2.2 10 _ rfl;refine bodyPost_ret (v:=.tuple #[pgV p a,numV 0]) (by simp [results,Tryz.results164,go_sem, *]) rfl ?_;exact ⟨B3.out,.inl ⟨p,a,rfl,NB.out,OK.out,⟨HN.out,HE.out⟩,NW.out.mono (by omega)⟩⟩
theorem h3z {α:Type} {la lb:List α} {k:Nat} (ha:k<la.length) (hb:k<lb.length) (h:la.take k=lb.take k) (e:la[k]=lb[k]):la.take (k+1)=lb.take (k+1):=by
 rw [List.take_succ_eq_append_getElem ha,List.take_succ_eq_append_getElem hb,h,e]
theorem k2m {α:Type} {la lb:List α} {k:Nat} (ha:k<la.length) (hb:k<lb.length) (e:la[k]≠lb[k]):la≠lb:=fun h=>by subst h;exact e rfl
theorem j1l {α:Type} {la lb:List α} {k:Nat} (ha:la.length<=k) (hl:la.length=lb.length) (h:la.take k=lb.take k):la=lb:=by
 rwa [List.take_of_length_le ha,List.take_of_length_le (by omega)] at h
theorem k9j:Tryz.prog.underlying 49=some (.struct (Tryz.prog.fieldsOf 49)):=by kernel_rfl
theorem j7t:Tryz.prog.stoodInHeld 49=false:=by kernel_rfl
theorem j8b:Tryz.prog.eqGuardType Tryz.prog.depth 49=false:=by kernel_rfl
theorem p1y (X1 Y1 X2 Y2:ByteArray) (W:World):(Op.equalIn 10000 49 (.agg #[.string X1,.string Y1]) (.agg #[.string X2,.string Y2])).run Tryz.prog W=.ok ((X1.toList==X2.toList)&&(Y1.toList==Y2.toList)) W:=by
 have u9:=Tryz.underlying9;have a9:=Tryz.isAgg9;have z9:=Tryz.sizeOf9;rw [show (10000:Nat)=9999+1 from rfl,run_equalIn_agg W 9999 49 _ _ k9j j7t];simp only [Program.fieldsOf,Tryz.underlying49];go_simp
 by_cases h1:X1.toList=X2.toList <;> by_cases h2:Y1.toList=Y2.toList <;> simp [h1,h2]
theorem j6p (X1 Y1 X2 Y2:ByteArray) (W:World) (r:Bool) (h:((X1.toList==X2.toList)&&(Y1.toList==Y2.toList))=r):(binOp .neq 49 (.agg #[.string X1,.string Y1]) (.agg #[.string X2,.string Y2])).run Tryz.prog W=.ok (.bool (!r)) W:=by
 rw [run_neq_struct,p1y,h]
 rfl
theorem j5f (x y:Operand) (u v:Array Value) (W:World):(eqGuard .neq 49 x y (.agg u) (.agg v)).run Tryz.prog W=.ok () W:=run_eqGuard_agg W _ _ _ _ _ _ j8b
theorem j6e (p q:Bs×Bs):(((strB p.1).toList==(strB q.1).toList)&&((strB p.2).toList==(strB q.2).toList))=decide (p=q):=by
 rw [g8x,g8x];obtain ⟨a,b⟩:=p;obtain ⟨c,d⟩:=q
 by_cases h1:a=c <;> by_cases h2:b=d <;> simp [h1,h2]
theorem j2j {p q:Pg} (h1:p.pairs=q.pairs) (h2:p.keys=q.keys) (h3:p.kids=q.kids) (h4:p.pages=q.pages) (g0:p.kind=q.kind) (g5:p.next=q.next) (g6:p.epoch=q.epoch) (g7:p.root=q.root) (g8:p.depth=q.depth) (g9:p.count=q.count) (g10:p.high=q.high):p=q:=by
 obtain ⟨⟩:=p;obtain ⟨⟩:=q
 simp_all
theorem k1y (n:Nat):∀ (k acc:Nat),(be k n).foldl (fun n b=>n*256+b.toNat) acc=acc*256 ^ k+n % 256 ^ k
 | 0,acc=>by simp [be,Nat.mod_one]
 | k+1,acc=>by
  have e1:n % 256 ^ (k+1)=n % 256 ^ k+256 ^ k*(n / 256 ^ k % 256):=by rw [Nat.pow_succ,Nat.mod_mul]
  have e2:(UInt8.ofNat (n / 256 ^ k)).toNat=n / 256 ^ k % 256:=UInt8.toNat_ofNat';rw [be,List.foldl_cons,k1y n k,e1,e2,Nat.add_mul,Nat.pow_succ,Nat.mul_assoc acc,Nat.mul_comm 256,Nat.mul_comm (n / 256 ^ k % 256)];omega
theorem j3n (k n:Nat) (h:n<256 ^ k):ofBe (be k n)=n:=by
 rw [ofBe,k1y,Nat.zero_mul,Nat.zero_add,Nat.mod_eq_of_lt h]
theorem h1t (k n:Nat) (r:Bs) (h:n<256 ^ k):g6k k (be k n++r)=some (n,r):=by
 rw [g6k,if_pos (by rw [List.length_append,g3g];omega),List.take_left' (g3g k n),List.drop_left' (g3g k n),j3n k n h]
theorem g6f (x:Int) (r:Bs) (h0:0<=x) (h1:x<65536):rNum (num2 x++r)=some (x,r):=by
 rw [rNum,num2,h1t 2 x.toNat r (by omega)];simp [Int.toNat_of_nonneg h0]
theorem h5w (s r:Bs) (h:s.length<256):g9z (txt s++r)=some (s,r):=by
 rw [g9z,txt,List.append_assoc,h1t 1 s.length _ (by omega)];simp
theorem h4m:∀ (l:List (Bs×Bs)) (r:Bs),(∀ x∈l,x.1.length<256/\x.2.length<256)->g8n l.length ((l.flatMap fun x=>txt x.1++txt x.2)++r)=some (l,r)
 | [],_,_=>rfl
 | x :: l,r,h=>by
  have h1:=h x (List.mem_cons_self ..);rw [List.flatMap_cons,List.length_cons,g8n,List.append_assoc,List.append_assoc,h5w _ _ h1.1];simp only [Option.bind_some];rw [h5w _ _ h1.2];simp only [Option.bind_some];rw [h4m l r (fun y hy=>h y (List.mem_cons_of_mem _ hy))]
  rfl
theorem h6t:∀ (l:List (Bs×Int)) (r:Bs),(∀ x∈l,x.1.length<256/\0<=x.2/\x.2<65536)->h4v l.length ((l.flatMap fun x=>txt x.1++num2 x.2)++r)=some (l,r)
 | [],_,_=>rfl
 | x :: l,r,h=>by
  have h1:=h x (List.mem_cons_self ..);rw [List.flatMap_cons,List.length_cons,h4v,List.append_assoc,List.append_assoc,h5w _ _ h1.1];simp only [Option.bind_some];rw [g6f _ _ h1.2.1 h1.2.2];simp only [Option.bind_some];rw [h6t l r (fun y hy=>h y (List.mem_cons_of_mem _ hy))]
  rfl
theorem h7t:∀ (l:List Int) (r:Bs),(∀ x∈l,0<=x/\x<65536)->h6c l.length ((l.flatMap num2)++r)=some (l,r)
 | [],_,_=>rfl
 | x :: l,r,h=>by
  have h1:=h x (List.mem_cons_self ..);rw [List.flatMap_cons,List.length_cons,h6c,List.append_assoc,g6f _ _ h1.1 h1.2];simp only [Option.bind_some];rw [h7t l r (fun y hy=>h y (List.mem_cons_of_mem _ hy))]
  rfl
theorem h2g {x:Int} (h:Place x):0<=x/\x<65536:=by unfold Place at h;omega
theorem j9g {p:Pg} (g:h5l p) (r:Bs):h3g (g5f p++r)=some ({kind:=1,pairs:=p.pairs},r):=by
 have:=g.len.2;rw [h3g,g5f,List.append_assoc,g6f _ _ (by omega) (by omega)];simp only [Option.bind_some,Int.toNat_natCast];rw [h4m p.pairs r (fun x hx=>⟨by have:=(g.all x.1 (List.mem_map_of_mem hx)).2;omega,by have:=g.vals x hx;omega⟩)]
 rfl
theorem j1g {p:Pg} (g:g9b p) (r:Bs):g4k (g3s p++r)=some ({kind:=2,keys:=p.keys,kids:=p.kids},r):=by
 have:=g.len.2;have hk:=g.kids;rcases hd:p.kids with _ | ⟨z,ds⟩
 ·rw [hd] at hk;simp at hk
 have hz:=h2g (g.places z (by rw [hd];exact List.mem_cons_self ..));have hlen:ds.length=p.keys.length:=by rw [hd] at hk;simpa using hk
 rw [g4k,g3s,hd,List.headD_cons,List.tail_cons,List.append_assoc,List.append_assoc,g6f _ _ (by omega) (by omega)];simp only [Option.bind_some,Int.toNat_natCast];rw [g6f _ _ hz.1 hz.2];simp only [Option.bind_some];have h:=h6t (p.keys.zip ds) r (fun x hx=>⟨by have:=(g.all x.1 (List.of_mem_zip hx).1).2;omega,h2g (g.places x.2 (by rw [hd];exact List.mem_cons_of_mem _ (List.of_mem_zip hx).2))⟩)
 rw [show (p.keys.zip ds).length=p.keys.length by rw [List.length_zip];omega] at h;rw [h];simp only [Option.map_some];rw [List.map_fst_zip (by omega),List.map_snd_zip (by omega)]
theorem j8x {p:Pg} (g:h4q p) (r:Bs):h3h (g5t p++r)=some ({kind:=3,pages:=p.pages,next:=p.next},r):=by
 have:=g.len;have hx:0<=p.next/\p.next<65536:=by rcases g.next with h | h;omega;exact h2g h
 rw [h3h,g5t,List.append_assoc,List.append_assoc,g6f _ _ (by omega) (by omega)];simp only [Option.bind_some,Int.toNat_natCast];rw [h7t p.pages _ (fun x hx=>h2g (g.all x hx))];simp only [Option.bind_some];rw [g6f _ _ hx.1 hx.2]
 rfl
theorem j3d {p:Pg} (g:g6w p) (r:Bs):g7u (g4q p++r)=some ({kind:=4,root:=p.root,depth:=p.depth,count:=p.count,high:=p.high,next:=p.next},r):=by
 have hr:0<=p.root/\p.root<65536:=by rcases g.root with h | h;omega;exact h2g h
 have hx:0<=p.next/\p.next<65536:=by rcases g.next with h | h;omega;exact h2g h
 have hd:=g.depth;have hc:=g.count;have hh:=g.high;rw [g7u,g4q,List.append_assoc,List.append_assoc,List.append_assoc,List.append_assoc,g6f _ _ hr.1 hr.2];simp only [Option.bind_some];rw [g6f _ _ (by omega) (by omega)];simp only [Option.bind_some];rw [h1t 4 _ _ (by omega)];simp only [Option.bind_some];rw [g6f _ _ (by omega) (by omega)];simp only [Option.bind_some];rw [g6f _ _ hx.1 hx.2]
 simp [Int.toNat_of_nonneg hc.1]
theorem h6l {s:Int} {p:Pg} (h:Fine p) (r:Bs):g7d (pageBs s p++r)=some ({p with epoch:=0},r):=by
 have hk:0<=p.kind/\p.kind<=4:=by rcases h with ⟨h,_⟩ | ⟨h,_⟩ | ⟨h,_⟩ | ⟨h,_⟩ <;> omega
 rw [g7d,pageBs,List.append_assoc,List.append_assoc,h1t 1 _ _ (by omega)];simp only [Option.bind_some];rw [if_pos (by rw [List.length_append,g1a];omega),List.drop_left' (g1a s)];unfold j1k bodyOf;rcases h with ⟨hk,g,a1,a2,a3,a4,b1,b2,b3,b4,b5⟩ | ⟨hk,g,a1,a2,a3,b1,b2,b3,b4,b5⟩ | ⟨hk,g,a1,a2,a3,b1,b2,b3,b4,b5⟩ | ⟨hk,g,a1,a2,a3,a4⟩
 ·rw [if_pos (by rw [hk];rfl),if_pos hk,j9g g r];exact congrArg (fun q=>some (q,r)) (j2j rfl (List.eq_nil_of_length_eq_zero a1).symm (List.eq_nil_of_length_eq_zero a2).symm (List.eq_nil_of_length_eq_zero a3).symm hk.symm a4.symm rfl b2.symm b3.symm b4.symm b5.symm)
 ·rw [if_neg (by rw [hk];decide),if_pos (by rw [hk];rfl),if_neg (by omega),if_pos hk,j1g g r];exact congrArg (fun q=>some (q,r)) (j2j (List.eq_nil_of_length_eq_zero a1).symm rfl rfl (List.eq_nil_of_length_eq_zero a2).symm hk.symm a3.symm rfl b2.symm b3.symm b4.symm b5.symm)
 ·rw [if_neg (by rw [hk];decide),if_neg (by rw [hk];decide),if_pos (by rw [hk];rfl),if_neg (by omega),if_neg (by omega),if_pos hk,j8x g r];exact congrArg (fun q=>some (q,r)) (j2j (List.eq_nil_of_length_eq_zero a1).symm (List.eq_nil_of_length_eq_zero a2).symm (List.eq_nil_of_length_eq_zero a3).symm rfl hk.symm rfl rfl b2.symm b3.symm b4.symm b5.symm)
 ·rw [if_neg (by rw [hk];decide),if_neg (by rw [hk];decide),if_neg (by rw [hk];decide),if_pos (by rw [hk];rfl),if_neg (by omega),if_neg (by omega),if_neg (by omega),j3d g r];exact congrArg (fun q=>some (q,r)) (j2j (List.eq_nil_of_length_eq_zero a1).symm (List.eq_nil_of_length_eq_zero a2).symm (List.eq_nil_of_length_eq_zero a3).symm (List.eq_nil_of_length_eq_zero a4).symm hk.symm rfl rfl rfl rfl rfl rfl)
theorem g7a {s:Int} {p:Pg} {l:Bs} (h:Enc s p l) (hep:p.epoch<18446744073709551616):g0v s l p:=by
 refine ⟨?_,h⟩;obtain ⟨hf,⟨hk,hs,rfl⟩ | ⟨hk,hs,rfl⟩⟩:=h
 ·rw [h8h,if_pos hs,g2z,h1t 8 _ _ (by omega)];simp only [Option.bind_some,g5s,List.append_assoc];rw [h6l hf]
  rfl
 ·have hs2:¬ (s=0\/s=1):=by unfold Place at hs;omega
  rw [h8h,if_neg hs2,h1b,g5s,List.append_assoc,h6l hf];have e:p.epoch=0:=by
   rcases hf with ⟨_,_,_,_,_,_,e,_⟩ | ⟨_,_,_,_,_,e,_⟩ | ⟨_,_,_,_,_,e,_⟩ | ⟨h,_⟩
   ·exact e
   ·exact e
   ·exact e
   ·exact absurd h hk
  exact congrArg some (j2j rfl rfl rfl rfl rfl rfl e.symm rfl rfl rfl rfl)
theorem k2b {s:Int} {p:Pg} {l:Bs} (h:Enc s p l):l.length=1024:=by
 obtain ⟨hf,⟨hk,_,rfl⟩ | ⟨hk,_,rfl⟩⟩:=h
 ·have:=h1i (s:=s) hk;simp [g2z,g3g,zeros,g8m (n:=496) (l:=pageBs s p) (by omega)]
 ·simp [h1b,g3g,g8m (n:=1016) (l:=pageBs s p) (j5c hf)]
theorem j8p (s:Int) (A:Option Addr) (n c:Nat) (u:Bs) (w:World) (h:BytesAt w A n c u):Calls Tryz.prog 164 #[.int .i64 s,.slice A n c] w (j5b s u w):=by
 rcases hr:h8h s u with _ | p
 ·exact j3m s A n c u w h hr
 ·exact j2o s A n c u w h p hr
theorem g6u {s:Int} {u:Bs} {p q:Pg} (h:g0v s u p) (g:g0v s u q):p=q:=by
 have:=h.1.symm.trans g.1;cases this
 rfl
theorem p3a {k a b:Nat} (h:be k a=be k b) (ha:a<256 ^ k) (hb:b<256 ^ k):a=b:=by
 rw [<- j3n k a ha,<- j3n k b hb,h]
theorem p2r (n:Nat):be 1 n=[UInt8.ofNat n]:=by simp [be]
structure Twin (l:Bs):Prop where
 len:l.length=1024
 lead:∀ i,i<8->l[i]?=l[1016+i]?
 half:∀ i,i<496->l[8+i]?=l[512+i]?
 gap:∀ i,i<8->l[504+i]?=some 0
 gap2:∀ i,i<8->l[1008+i]?=some 0
theorem g5j {n i:Nat} (h:i<n):(zeros n)[i]?=some 0:=by rw [zeros,List.getElem?_replicate,if_pos h]
theorem p1h {E H Z:Bs} (hE:E.length=8) (hH:H.length=496) (hZ:Z=zeros 8):Twin (E++(H++(Z++(H++(Z++E))))):=by
 have hZ':Z.length=8:=by rw [hZ,zeros,List.length_replicate]
 have z0:∀ i,i<8->Z[i]?=some 0:=fun i hi=>by rw [hZ];exact g5j hi
 refine ⟨by simp [hE,hH,hZ'],fun i hi=>?_,fun i hi=>?_,fun i hi=>?_,fun i hi=>?_⟩
 ·rw [List.getElem?_append_left (by omega),List.getElem?_append_right (by omega),List.getElem?_append_right (by omega),List.getElem?_append_right (by omega),List.getElem?_append_right (by omega),List.getElem?_append_right (by omega)]
  congr 1;omega
 ·rw [List.getElem?_append_right (by omega),List.getElem?_append_left (by omega),List.getElem?_append_right (by omega),List.getElem?_append_right (by omega),List.getElem?_append_right (by omega),List.getElem?_append_left (by omega)]
  congr 1;omega
 ·rw [List.getElem?_append_right (by omega),List.getElem?_append_right (by omega),List.getElem?_append_left (by omega)];exact z0 _ (by omega)
 ·rw [List.getElem?_append_right (by omega),List.getElem?_append_right (by omega),List.getElem?_append_right (by omega),List.getElem?_append_right (by omega),List.getElem?_append_left (by omega)];exact z0 _ (by omega)
theorem j1q (ep:Nat) {L:Bs} (h:L.length<=496):Twin (g2z ep L):=p1h (g3g 8 ep) (g8m h) rfl
theorem j8g:Twin (zeros 1024):=by
 refine ⟨by rw [zeros,List.length_replicate],fun i hi=>?_,fun i hi=>?_,fun i hi=>?_,fun i hi=>?_⟩
 ·rw [g5j (by omega),g5j (by omega)]
 ·rw [g5j (by omega),g5j (by omega)]
 ·rw [g5j (by omega)]
 ·rw [g5j (by omega)]
theorem k7z {s:Int} {p:Pg}:∃ r,pageBs s p=UInt8.ofNat p.kind.toNat :: (num2 s++r):=⟨_,by rw [pageBs,p2r];rfl⟩
theorem j4p {ep:Nat} {s:Int} {p:Pg} (hk:p.kind=4):(g2z ep (pageBs s p))[512]?=some 4/\(g2z ep (pageBs s p))[8]?=some 4/\((g2z ep (pageBs s p)).drop 9).take 2=num2 s/\∀ i,23<=i->i<512->(g2z ep (pageBs s p))[i]?=some 0:=by
 have hlen:=h1i (s:=s) hk;obtain ⟨r,hr⟩:=k7z (s:=s) (p:=p);rw [hk] at hr;have hH:=g8m (n:=496) (l:=pageBs s p) (by omega);have hE:=g3g 8 ep;have hz:(zeros 8).length=8:=by rw [zeros,List.length_replicate]
 have h0:(g5s 496 (pageBs s p))[0]?=some 4:=by rw [g5s,hr];rfl
 have ht:((g5s 496 (pageBs s p)).drop 1).take 2=num2 s:=by
  rw [g5s,hr,List.cons_append,List.drop_one,List.tail_cons,List.append_assoc,List.take_left' (g1a s)]
 have hpad:∀ i,15<=i->i<496->(g5s 496 (pageBs s p))[i]?=some 0:=fun i h1 h2=>by
  rw [g5s,List.getElem?_append_right (by omega),hlen,List.getElem?_replicate,if_pos (by omega)]
 unfold g2z;generalize g5s 496 (pageBs s p)=H at *;generalize be 8 ep=E at *;refine ⟨?_,?_,?_,fun i h1 h2=>?_⟩
 ·rw [List.getElem?_append_right (by omega),List.getElem?_append_right (by omega),List.getElem?_append_right (by omega),List.getElem?_append_left (by omega),hE,hH,hz];exact h0
 ·rw [List.getElem?_append_right (by omega),List.getElem?_append_left (by omega),hE];exact h0
 ·rw [show (9:Nat)=8+1 from rfl,<- List.drop_drop,List.drop_left' hE,List.drop_append_of_le_length (by omega),List.take_append_of_le_length (by rw [List.length_drop];omega)];exact ht
 ·rw [List.getElem?_append_right (by omega),hE]
  by_cases c:i<504
  ·rw [List.getElem?_append_left (by omega)];exact hpad _ (by omega) (by omega)
  ·rw [List.getElem?_append_right (by omega),List.getElem?_append_left (by omega)];exact g5j (by omega)
theorem h9s {s:Int} {p:Pg} {l:Bs} (h:Enc s p l) (hs:s=0\/s=1):Twin l/\p.kind=4/\l[8]?=some 4/\l.take 8=be 8 p.epoch:=by
 obtain ⟨hf,⟨a1,a2,rfl⟩ | ⟨a1,a2,rfl⟩⟩:=h
 ·exact ⟨j1q _ (by rw [h1i a1];omega),a1,(j4p a1).2.1,by rw [g2z,List.take_left' (g3g 8 _)]⟩
 ·unfold Place at a2;omega
open Go.ChangeShapes Go.WideShapes Go.ChangeAt Go.WideMaps Go.WideElems Go.RowKit Go.Deep Gen
theorem laidOut:laidOutB Tryz.prog=true:=by kernel_rfl
theorem k3f {α:Type} (p:Nat->α->Prop):∀ n,(∀ j,j<n->∃ x,p j x)->∃ l:List α,l.length=n/\∀ j (h:j<l.length),p j l[j]
 | 0,_=>⟨[],rfl,fun j h=>by simp at h⟩
 | n+1,h=>by
  obtain ⟨l,hl,hp⟩:=k3f p n (fun j hj=>h j (by omega));obtain ⟨x,hx⟩:=h n (by omega);refine ⟨l++[x],by simp [hl],fun j hj=>?_⟩;rw [List.length_append,List.length_singleton] at hj
  by_cases e:j<l.length
  ·rw [List.getElem_append_left e];exact hp j e
  ·obtain rfl:j=l.length:=by omega
   rw [List.getElem_append_right (Nat.le_refl _)];simp only [Nat.sub_self,List.getElem_singleton];rw [hl];exact hx
section
variable {H:Type} {enc:TypeId×Value->H} {W:World} {fuel:Nat} {cs:List Value} {x:DataW H×List MemPlace}
theorem j1z (hf:DataW.trod enc Tryz.prog W 0 (fun _=>true) true fuel 9 cs=some x):∃ l:Bs,cs=[strV l]:=by
 obtain ⟨s,rfl,_,_⟩:=DataW.trod_string Tryz.underlying9 hf;refine ⟨s.data.toList,?_⟩;cases s;simp [strB]
end
end Go.Proofs.YtglejnkoojpelaaGreat.Page

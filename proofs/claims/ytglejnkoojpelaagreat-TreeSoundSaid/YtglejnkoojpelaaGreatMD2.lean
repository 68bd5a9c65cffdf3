import Derived.Test.YtglejnkoojpelaaGreatMD1
import Derived.Deep.LoopGhost
set_option maxRecDepth 100000
set_option maxHeartbeats 32000000
namespace Go.Proofs.YtglejnkoojpelaaGreat.Disk
open Go.RowKit Go.Maps Gen
open Lib (hid)
def laid (l:Bs):Option Bs:=if l=zeros then none else some l
def g5w (s:St) (left:Lit->Bool):Int->Option Bs:=fun x=>match s.C x with
 | some l=>if left (keyL x) then s.L x else laid l
 | none=>s.L x
def St.synced (s:St):St:={s with L:=g5w s (fun _=>false),C:=fun _=>none}
def St.syncE (s:St):Int:=if s.off then 40 else s.actE
def St.sync (s:St):St:=if s.off then s else if s.actE=0 then s.act.synced else s.act
theorem merged_start (s:St) (left:Lit->Bool) (h:∀ x l,s.C x=some l->left (keyL x)=true):g5w s left=s.L:=by
 funext x
 unfold g5w
 split
 ·rename_i l hl
  rw [if_pos (h x l hl)]
 ·rfl
theorem merged_step (s:St) (left:Lit->Bool) (x:Int) (c:Bs) (hc:s.C x=some c):upd (g5w s left) x (laid c)=g5w s (fun z=>left z && !z.sameKey (keyL x)):=by
 funext y
 by_cases e:y=x
 ·subst e;rw [upd_same];unfold g5w;simp [hc,WideAt.sameKey_self (isKey y)]
 ·rw [g6e _ _ e];unfold g5w;simp [Maps.sameKey_ne (g9t e)]
theorem k7k (w:World) (sb bl bc:Nat) (s:St) (h:Dev w sb bl bc s) (ho:s.off=true):Calls Tryz.prog 108 #[ptr sb] w fun e w'=>e=.returned (.int .i64 40)/\w=w':=by
 have cA:=g3i w sb bl bc s h;rw [show s.awE=40 by simp [St.awE,ho]] at cA;clear h ho;go_enter Tryz.func108,Tryz.ntmps108
 go_wp2_with fail
 refine cA.mono ?_;rintro e w' ⟨rfl,rfl⟩;go_wp2_with fail
 go_ret
 exact ⟨rfl,rfl⟩
theorem k6s (w:World) (sb bl bc:Nat) (s:St) (h:Dev w sb bl bc s) (ho:s.off=false) (hA:s.actE=40):Calls Tryz.prog 108 #[ptr sb] w fun e w' =>
 e=.returned (.int .i64 40)/\Dev w' sb bl bc s.act/\Mod [sb,bl,bc] w w':=by
 have cA:=g3i w sb bl bc s h;rw [show s.awE=0 by simp [St.awE,ho]] at cA;have cT:=h9a w sb bl bc s h;rw [hA] at cT;clear h ho hA;go_enter Tryz.func108,Tryz.ntmps108
 go_wp2_with fail
 refine cA.mono ?_;rintro e w' ⟨rfl,rfl⟩;go_wp2_with fail
 refine cT.mono ?_;rintro e w' ⟨rfl,HD,HM⟩;go_wp2_with fail
 go_ret
 exact ⟨rfl,HD,HM⟩
def j3a (w:World) (sb bl bc r N:Nat) (s:St) (D:DataW Unit) (wr:World):Prop :=
 ∃ left cnt,wr.ranges Tryz.prog 3 SecR bc r N D left cnt/\Dev wr sb bl bc {s with L:=g5w s left}/\Mod [sb,bl,bc] w wr/\r≠bl
theorem k3d {w wr w':World} {sb bl bc r N:Nat} {s:St} {D:DataW Unit} {left:Lit->Bool} {cnt:Nat} (hD:∀ x,look D x=s.C x) (hdev:Dev wr sb bl bc {s with L:=g5w s left}) (hm:Mod [sb,bl,bc] w wr) (hrb:r≠bl) (hrs:w.heap.size<=r)
 {x:Int} {c:Bs} {kl:Lit} {yd:DataW Unit} {yp:List MemPlace} (hkey:keyOf Tryz.prog 3 (.int .i64 x)=some kl) (hv:SecR (.agg (secC c))=some (yd,yp)) (hat:∀ zd,D.atKey kl zd=yd)
 (hrg:wr.ranges Tryz.prog 3 SecR bc r N D left cnt) (hg:wr.grownBy w' (some r)) :
 kl=keyL x/\c.length=1024/\s.C x=some c/\0<=x/\x<s.n/\Dev w' sb bl bc {s with L:=g5w s left}/\Mod [sb,bl,bc] w w':=by
 obtain ⟨x',e1,e2,_⟩:=Maps.keyOf_int_inv Tryz.underlying3 hkey
 injection e1 with _ e1
 subst e1;obtain ⟨l,hl,e3,e4⟩:=h3n hv
 injection e3 with e3
 obtain rfl:=k5v e3
 injection e4 with e4 _
 subst e4 e2;have hh:=Maps.has_true_of_atKey hat;have hC:s.C x=some c:=by
  rw [<- hD,look,hh,if_pos rfl,hat];rfl
 have hf:=hdev.cache.fit x c hC;have hrsb:sb≠r:=fun e=>by
  obtain ⟨es,clock,since,seen,c0,_,_,_,_,hr,_⟩:=hrg;have:=hdev.box;rw [e,hr] at this;cases this
 have hrbc:bc≠r:=fun e=>hrg.ne e.symm
 have m1:Mod [r] wr w':=(Mod.refl [r] wr).grown hg (fun k e=>.inl (by cases e;simp));refine ⟨rfl,hl,hC,hf.1,hf.2.1,hdev.kept m1 (by simpa using hrsb) (by simpa using hrb.symm) (by simpa using hrbc),hm.grown hg (fun k e=>.inr (by cases e;exact hrs))⟩
theorem Dev.recache {w:World} {sb bl bc:Nat} {s:St} (h:Dev w sb bl bc s) {f:Int->Option Bs} (e:∀ x,s.L x=f x):Dev w sb bl bc {s with L:=f}:=by
 obtain rfl:s.L=f:=funext e;exact h
theorem j9l {w w1 w2:World} {sb bl bc r N:Nat} {s:St} {D:DataW Unit} {left:Lit->Bool} {cnt':Nat} {x:Int} {c:Bs} (hC:s.C x=some c) (hm:Mod [sb,bl,bc] w w1) (hrb:r≠bl) (hne:bl≠bc)
 (hrg:w1.ranges Tryz.prog 3 SecR bc r N D (fun z=>left z && !z.sameKey (keyL x)) cnt') (HD:Dev w2 sb bl bc (({s with L:=g5w s left}:St).lay x c)) (HM:Mod [bl] w1 w2) :
 w2.ranges Tryz.prog 3 SecR bc r N D (fun z=>left z && !z.sameKey (keyL x)) cnt'/\j3a w sb bl bc r N s D w2:=by
 have hr2:w2.ranges Tryz.prog 3 SecR bc r N D (fun z=>left z && !z.sameKey (keyL x)) cnt':=by
  have h1:=hrg.owns.lt;have h2:=hrg.lt;obtain ⟨es,clock,since,seen,c0,hb,F,hs,hD,hr,rest⟩:=hrg;exact ⟨es,clock,since,seen,c0,(HM.block bc h1 (by simpa using hne.symm)).trans hb,F,hs,hD,(HM.block r h2 (by simpa using hrb)).trans hr,rest⟩
 refine ⟨hr2,_,cnt',hr2,HD.recache (fun y=>?_),hm.trans (HM.mono (by simp)),hrb⟩;exact congrFun (merged_step s left x c hC) y
theorem k2k (w0:World) (sb bl bc:Nat) (s0 s:St) (h0:Dev w0 sb bl bc s0) (ho:s0.off=false) (hA:s0.actE=0) (hs:s0.act=s):Calls Tryz.prog 108 #[ptr sb] w0 fun e w' =>
 e=.returned (.int .i64 0)/\Dev w' sb bl bc s.synced/\Mod [sb,bl,bc] w0 w':=by
 have cA:=g3i w0 sb bl bc s0 h0;rw [show s0.awE=0 by simp [St.awE,ho]] at cA;have cT:=h9a w0 sb bl bc s0 h0;rw [hA,hs] at cT;clear h0 ho hA hs;go_enter Tryz.func108,Tryz.ntmps108
 go_wp2_with fail
 refine cA.mono ?_;rintro e w' ⟨rfl,rfl⟩;go_wp2_with fail
 refine cT.mono ?_;rintro e w ⟨rfl,h,HM0⟩;clear cA cT;obtain ⟨c0,c1,c2,c3,c4,c5⟩:=h.cells;obtain ⟨D,hown,_,hlook,hkeys⟩:=h.cache.size;have hlt:=h.lt;clear c0 c1 c3 c4 c5;go_wp2_with (first
  | (at_range;refine wpList_range_own _ rfl _ 112 rfl 3 110 g3t Tryz.underlying112 _ bc s.n D rfl hown ?_;intro w1 hrg1 hg1 hs1))
 go_frame
 have hst:j3a w0 sb bl bc w.heap.size s.n s D w1:=by
  have m1:Mod [] w w1:=(Mod.refl [] w).grown hg1 (fun k e=>by cases e);refine ⟨_,_,hrg1,?_,HM0.grown hg1 (fun k e=>by cases e),fun e=>?_⟩
  ·refine (h.kept m1 (by simp) (by simp) (by simp)).recache (fun x=>?_);rw [merged_start s _ (fun x l hx=>?_)];have:=hlook x;rw [hx,look] at this
   revert this
   cases Maps.has D (keyL x) <;> simp
  ·have:=h.last.lt;omega
 have hsz:w0.heap.size<=w.heap.size:=HM0.size;have HLOOK:=hid hlook;have HST:=hid hst;have hne:=h.ne;clear hst hlook hkeys hown h HM0 hg1 hs1 hrg1 c2 hlt;generalize hr:w.heap.size=r at *;clear hr;go_loopw [5] (fun _ wr=>j3a w0 sb bl bc r s.n s D wr) (fun _ wr=>wr.rangeLeft bc r)
 case atStart=>exact HST.out
 case round =>
  obtain ⟨left,cnt,hrg,hdev,hm,hrb⟩:=hrel;obtain ⟨c0,c1,c2,c3,c4,c5⟩:=hdev.cells;have HDV:=hid hdev;clear c0 c1 c3 c4 c5 hdev;go_wp2_with (first
   | (at_next;refine wpList_next_ranges _ rfl _ rfl 3 g3t SecR (Value.int .i64) (fun c:Bs=>.agg (secC c)) (fun key kl hk=>by obtain ⟨x,hx,_⟩:=Maps.keyOf_int_inv Tryz.underlying3 hk;exact ⟨x,hx⟩) (fun v y hv=>by obtain ⟨l,_,e,_⟩:=h3n hv;exact ⟨l,e⟩) bc r s.n _ _ _ rfl hrg ?_ ?_))
  ·intro hc0 hl0;obtain ⟨w3,hrun,hm3,hg3⟩:=HDV.out.cache.clear 0;have hfin:Dev w3 sb bl bc s.synced:=(HDV.out.recache (f:=g5w s (fun _=>false)) (fun x=>by
    show g5w s left x=_;rw [show left=fun _=>false from funext hl0])).withC hg3 hm3
   have HF:=hid (show Dev w3 sb bl bc s.synced/\Mod [sb,bl,bc] w0 w3 from ⟨hfin,hm.grown hg3 (fun k e=>.inl (by cases e;simp))⟩);have R:=hid hrun;clear hl0 hrg hfin hrun hm3 hg3 hm hc0 HDV;go_wp2_with ((with_reducible refine g8f rfl 112 (.tmp 34) rfl _ ?_ R.out ?_);(next=>rfl))
   go_ret
   exact ⟨rfl,HF.out⟩
  ·intro x c kl yd yp w2 cnt2 hkey hlk hv hat hrg2 hlt hg2 hs2 hen;obtain ⟨rfl,hcl,hC,hx0,hx1,hd2,hm2⟩:=k3d HLOOK.out HDV.out hm hrb hsz hkey hv hat hrg hg2;have ZZ:=hid (h3k w2);have SS:=hid (g7m w2 (secC zeros) c hcl h1z);have LD:=hid (g9d (w:=w2.alloc (.cells (secC c) 110)) (b:=w2.heap.size) hcl (heap_alloc_last _ _));have cY:=hid (p2f _ sb bl bc _ x c hcl (hd2.alloc (.cells (secC c) 110)) hx0 hx1)
   have hrg3:=hrg2.alloc (.cells (secC c) 110);have HR3:=hid hrg3;have HM3:=hid (hm2.alloc (.cells (secC c) 110));have HC:=hid hC;have HLE:=hid hrg.left_eq;clear hv hg2 hs2 hkey hlk hat hrg2 hC hx0 hx1 hd2 hm2 hrg3 hm hrg HDV hcl;generalize zeros=z at *;go_wp2_with (first
    | ((with_reducible refine g4p (o:=⟨some 6,_,_,_,_,_⟩) rfl 110 rfl _ ZZ.out ?_))
    | ((with_reducible refine g0b rfl 110 (.tmp 6) (.tmp 26) rfl _ _ ?_ ?_ SS.out ?_);(next=>rfl);(next=>rfl))
    | ((with_reducible refine g0d rfl 110 (.tmp 6) rfl _ ?_ LD.out ?_);(next=>rfl))
    | (go_at_call 62;refine cY.out.mono ?_;rintro e w3 ⟨rfl,HD,HM⟩))
   obtain ⟨hrg4,hrel4⟩:=j9l HC.out HM3.out hrb hne HR3.out HD HM;have HRL:=hid hrel4;have HR4:=hid hrg4.left_eq;clear hrg4 hrel4 HD HM hen;go_roundw
   case rel=>exact HRL.out
   case measure=>rw [HR4.out,HLE.out];exact hlt
theorem k6v (w:World) (sb bl bc:Nat) (s:St) (h:Dev w sb bl bc s):Calls Tryz.prog 108 #[ptr sb] w fun e w'=>e=.returned (.int .i64 s.syncE)/\Dev w' sb bl bc s.sync/\Mod [sb,bl,bc] w w':=by
 unfold St.syncE St.sync;cases ho:s.off
 ·rcases k4w s with hA | hA
  ·rw [hA];exact k2k w sb bl bc s _ h ho hA rfl
  ·rw [hA];exact k6s w sb bl bc s h ho hA
 ·refine (k7k w sb bl bc s h ho).mono ?_;rintro e w' ⟨rfl,rfl⟩;exact ⟨rfl,h,Mod.refl _ _⟩
end Go.Proofs.YtglejnkoojpelaaGreat.Disk

import Derived.Test.YtglejnkoojpelaaGreatMP2
import Derived.Laws.BytesArg
import Derived.Laws.BitsAllLaws
import Derived.Laws.Bits64b
import Derived.Maps.AppendAt
import Derived.Deep.AppendLies
set_option maxRecDepth 100000
set_option maxHeartbeats 32000000
namespace Go.Proofs.YtglejnkoojpelaaGreat.Page
open Go.RowKit Gen
open Lib (hid)
noncomputable def bodyOf (p:Pg):Bs:=if p.kind=1 then g5f p else if p.kind=2 then g3s p else if p.kind=3 then g5t p else g4q p
noncomputable def pageBs (s:Int) (p:Pg):Bs:=be 1 p.kind.toNat++(num2 s++bodyOf p)
theorem h8e {p:Pg} (h:h5l p):(g5f p).length<=902:=by
 have h1:=h1a (fun x:Bs×Bs=>txt x.1++txt x.2) 150 p.pairs (fun x hx=>by
  have:=(h.all x.1 (List.mem_map_of_mem hx)).2;have:=h.vals x hx;rw [List.length_append,h9w,h9w];omega)
 have:=h.len.2;unfold g5f;rw [List.length_append,g1a];omega
theorem h6h {p:Pg} (h:g9b p):(g3s p).length<=616:=by
 have h1:=h1a (fun x:Bs×Int=>txt x.1++num2 x.2) 51 (p.keys.zip p.kids.tail) (fun x hx=>by
  have:=(h.all x.1 (List.of_mem_zip hx).1).2;rw [List.length_append,h9w,g1a];omega)
 have:=h.len.2;rw [List.length_zip] at h1;unfold g3s;rw [List.length_append,List.length_append,g1a,g1a];have:min p.keys.length p.kids.tail.length<=12:=by omega
 omega
theorem j6d {p:Pg} (h:h4q p):(g5t p).length<=404:=by
 have h1:=h1a num2 2 p.pages (fun x hx=>by rw [g1a];omega);have:=h.len;unfold g5t;rw [List.length_append,List.length_append,g1a,g1a];omega
theorem h5o (p:Pg):(g4q p).length=12:=by simp [g4q,g1a,g3g]
theorem g9y {x:Int} (h:Place x):g5r x:=by unfold Place at h;unfold g5r;omega
theorem k7e {p:Pg} (h:Fine p):(bodyOf p).length<=902:=by
 unfold bodyOf;rcases h with ⟨h,g,_⟩ | ⟨h,g,_⟩ | ⟨h,g,_⟩ | ⟨h,g,_⟩
 ·rw [if_pos h];exact h8e g
 ·rw [if_neg (by omega),if_pos h];have:=h6h g;omega
 ·rw [if_neg (by omega),if_neg (by omega),if_pos h];have:=j6d g;omega
 ·rw [if_neg (by omega),if_neg (by omega),if_neg (by omega),h5o];omega
theorem g5x (x:Int) (w:World) (h:g5r x):Calls Tryz.prog 258 #[.int .i64 1,.int .u64 x] w (Lays (be 1 x.toNat) w):=by
 have:=g6t 1 x.toNat w (by omega) (by have:=h.2;omega);rw [Int.toNat_of_nonneg h.1] at this;exact this
theorem j1h (n:Nat) (w:World) (h:n<18446744073709551616):Calls Tryz.prog 258 #[.int .i64 8,.int .u64 (n:Int)] w (Lays (be 8 n) w):=g6t 8 n w (by omega) h
theorem p0y (A:Option Addr) (n c:Nat) (l:Bs) (w:World) (h:BytesAt w A n c l) (hn:n<=1016):Calls Tryz.prog 259 #[.slice A n c,.int .i64 1016] w (Lays (g5s 1016 l) w):=h6x A n c l 1016 w h hn (by omega)
theorem k4n (A:Option Addr) (n c:Nat) (l:Bs) (w:World) (h:BytesAt w A n c l) (hn:n<=496):Calls Tryz.prog 259 #[.slice A n c,.int .i64 496] w (Lays (g5s 496 l) w):=h6x A n c l 496 w h hn (by omega)
theorem k7a (s:Int) (p:Pg) (a:Lay) (w:World) (hk:p.kind=1) (g:h5l p) (hR:g0c w p a) (hs:g5r s):Calls Tryz.prog 237 #[.int .i64 s,pgV p a] w (Lays (pageBs s p) w):=by
 have k1:(p.kind==1)=true:=by rw [hk];rfl
 have k2:(p.kind==2)=false:=by rw [hk];rfl
 have k3:(p.kind==3)=false:=by rw [hk];rfl
 have k4:(p.kind==4)=false:=by rw [hk];rfl
 have B1:Below w.heap.size w (w.alloc (.cells (pgC p a) 103)):=(Below.refl _ _).alloc (Nat.le_refl _) _;have HRR:=hR.below B1;have cL:=j3i p a (w.alloc (.cells (pgC p a) 103)) HRR.r1 (by have:=g.len;omega) (fun x hx=>⟨by have:=(g.all x.1 (List.mem_map_of_mem hx)).2;omega,g.vals x hx⟩) (by have:=h8e g;omega);have c0:(w.alloc (.cells (pgC p a) 103)).cell? ⟨w.heap.size,0,none⟩=some (.int .i64 p.kind):=by simp [pgC]
 have HB1:=hid B1;have hl:(g5f p).length<=902:=by have:=h8e g;omega
 have HL:=hid hl;have G1:=hid (fun W=>g5x p.kind W (by unfold g5r;omega));have G2:=hid (fun W=>g1r s W hs);have e0:IntKind.u64.wrap p.kind=p.kind:=by rw [IntKind.wrap_u64];omega
 unfold pageBs bodyOf;rw [if_pos hk];clear hR HRR B1 hk g hs hl;generalize g5f p=bd at *;have L1:=hid (g3g 1 p.kind.toNat);have L2:=hid (g1a s);generalize be 1 p.kind.toNat=t1 at *;generalize num2 s=t2 at *;unfold pgV;unfold pgC at *;go_enter Tryz.func237,Tryz.ntmps237
 go_wp2_with fail
 refine cL.mono ?_;rintro e w1 ⟨A1,n1,c1,rfl,h1,b1,-⟩;have d0:=cell_below c0 b1;have B2:=hid (HB1.out.trans (b1.mono HB1.out.size));have H1:=hid h1;clear h1 b1 cL c0;go_wp2_with fail
 refine (G1.out _).mono ?_;rintro e w2 ⟨A2,n2,c2,rfl,h2,b2,-⟩;have B3:=hid (B2.out.trans (b2.mono B2.out.size));have H1:=hid (H1.out.below b2);have H2:=hid h2;clear h2 b2 d0;go_wp2_with fail
 refine (G2.out _).mono ?_;rintro e w3 ⟨A3,n3,c3,rfl,h3,b3,-⟩;have B4:=hid (B3.out.trans (b3.mono B3.out.size));have H1:=hid (H1.out.below b3);have H2:=hid (H2.out.below b3);have H3:=hid h3;clear h3 b3;have CJ:=hid (g1h (some ⟨w3.heap.size,0,none⟩) 3 3 [(A2,c2,t1),(A3,c3,t2),(A1,c1,bd)] (w3.alloc (.cells #[.slice A2 n2 c2,.slice A3 n3 c3,.slice A1 n1 c1] 181)) rfl (by omega) (lits _ _ _ _ _ (by rw [g2d H1.out,g2d H2.out,g2d H3.out];rfl)) ((g1z.nil _).cons (H1.out.alloc _) |>.cons (H3.out.alloc _) |>.cons (H2.out.alloc _)) (by simp [g0t,L1.out,L2.out];have:=HL.out;omega))
 go_wp2_with fail
 refine CJ.out.mono ?_;rintro e w4 ⟨A4,n4,c4,rfl,h4,b4,f4⟩;have B5:=hid ((B4.out.alloc B4.out.size _).trans (b4.mono (B4.out.alloc B4.out.size _).size));have F4:=hid (fun a ha=>Nat.le_trans (B4.out.alloc B4.out.size _).size (f4 a ha));have H4:=hid h4;clear h4 b4 f4;go_wp2_with fail
 go_ret
 refine ⟨_,_,_,rfl,?_,B5.out,F4.out⟩;have h:=H4.out
 simpa [g0t] using h
theorem k8z (s:Int) (p:Pg) (a:Lay) (w:World) (hk:p.kind=2) (g:g9b p) (hR:g0c w p a) (hs:g5r s):Calls Tryz.prog 237 #[.int .i64 s,pgV p a] w (Lays (pageBs s p) w):=by
 have k1:(p.kind==1)=false:=by rw [hk];rfl
 have k2:(p.kind==2)=true:=by rw [hk];rfl
 have k3:(p.kind==3)=false:=by rw [hk];rfl
 have k4:(p.kind==4)=false:=by rw [hk];rfl
 have B1:Below w.heap.size w (w.alloc (.cells (pgC p a) 103)):=(Below.refl _ _).alloc (Nat.le_refl _) _;have HRR:=hR.below B1;have cL:=h9h p a (w.alloc (.cells (pgC p a) 103)) HRR.r2 HRR.r3 g.len.2 g.kids (fun x hx=>by have:=(g.all x hx).2;omega) (fun x hx=>g9y (g.places x hx));have c0:(w.alloc (.cells (pgC p a) 103)).cell? ⟨w.heap.size,0,none⟩=some (.int .i64 p.kind):=by simp [pgC]
 have HB1:=hid B1;have hl:(g3s p).length<=902:=by have:=h6h g;omega
 have HL:=hid hl;have G1:=hid (fun W=>g5x p.kind W (by unfold g5r;omega));have G2:=hid (fun W=>g1r s W hs);have e0:IntKind.u64.wrap p.kind=p.kind:=by rw [IntKind.wrap_u64];omega
 unfold pageBs bodyOf;rw [if_neg (by omega),if_pos hk];clear hR HRR B1 hk g hs hl;generalize g3s p=bd at *;have L1:=hid (g3g 1 p.kind.toNat);have L2:=hid (g1a s);generalize be 1 p.kind.toNat=t1 at *;generalize num2 s=t2 at *;unfold pgV;unfold pgC at *;go_enter Tryz.func237,Tryz.ntmps237
 go_wp2_with fail
 refine cL.mono ?_;rintro e w1 ⟨A1,n1,c1,rfl,h1,b1,-⟩;have d0:=cell_below c0 b1;have B2:=hid (HB1.out.trans (b1.mono HB1.out.size));have H1:=hid h1;clear h1 b1 cL c0;go_wp2_with fail
 refine (G1.out _).mono ?_;rintro e w2 ⟨A2,n2,c2,rfl,h2,b2,-⟩;have B3:=hid (B2.out.trans (b2.mono B2.out.size));have H1:=hid (H1.out.below b2);have H2:=hid h2;clear h2 b2 d0;go_wp2_with fail
 refine (G2.out _).mono ?_;rintro e w3 ⟨A3,n3,c3,rfl,h3,b3,-⟩;have B4:=hid (B3.out.trans (b3.mono B3.out.size));have H1:=hid (H1.out.below b3);have H2:=hid (H2.out.below b3);have H3:=hid h3;clear h3 b3;have CJ:=hid (g1h (some ⟨w3.heap.size,0,none⟩) 3 3 [(A2,c2,t1),(A3,c3,t2),(A1,c1,bd)] (w3.alloc (.cells #[.slice A2 n2 c2,.slice A3 n3 c3,.slice A1 n1 c1] 181)) rfl (by omega) (lits _ _ _ _ _ (by rw [g2d H1.out,g2d H2.out,g2d H3.out];rfl)) ((g1z.nil _).cons (H1.out.alloc _) |>.cons (H3.out.alloc _) |>.cons (H2.out.alloc _)) (by simp [g0t,L1.out,L2.out];have:=HL.out;omega))
 go_wp2_with fail
 refine CJ.out.mono ?_;rintro e w4 ⟨A4,n4,c4,rfl,h4,b4,f4⟩;have B5:=hid ((B4.out.alloc B4.out.size _).trans (b4.mono (B4.out.alloc B4.out.size _).size));have F4:=hid (fun a ha=>Nat.le_trans (B4.out.alloc B4.out.size _).size (f4 a ha));have H4:=hid h4;clear h4 b4 f4;go_wp2_with fail
 go_ret
 refine ⟨_,_,_,rfl,?_,B5.out,F4.out⟩;have h:=H4.out
 simpa [g0t] using h
theorem k7x (s:Int) (p:Pg) (a:Lay) (w:World) (hk:p.kind=3) (g:h4q p) (hR:g0c w p a) (hs:g5r s):Calls Tryz.prog 237 #[.int .i64 s,pgV p a] w (Lays (pageBs s p) w):=by
 have k1:(p.kind==1)=false:=by rw [hk];rfl
 have k2:(p.kind==2)=false:=by rw [hk];rfl
 have k3:(p.kind==3)=true:=by rw [hk];rfl
 have k4:(p.kind==4)=false:=by rw [hk];rfl
 have B1:Below w.heap.size w (w.alloc (.cells (pgC p a) 103)):=(Below.refl _ _).alloc (Nat.le_refl _) _;have HRR:=hR.below B1;have cL:=j4t p a (w.alloc (.cells (pgC p a) 103)) HRR.r4 g.len (fun x hx=>g9y (g.all x hx)) (by rcases g.next with h | h;omega;exact (g9y h).1) (by rcases g.next with h | h;omega;exact (g9y h).2);have c0:(w.alloc (.cells (pgC p a) 103)).cell? ⟨w.heap.size,0,none⟩=some (.int .i64 p.kind):=by simp [pgC]
 have HB1:=hid B1;have hl:(g5t p).length<=902:=by have:=j6d g;omega
 have HL:=hid hl;have G1:=hid (fun W=>g5x p.kind W (by unfold g5r;omega));have G2:=hid (fun W=>g1r s W hs);have e0:IntKind.u64.wrap p.kind=p.kind:=by rw [IntKind.wrap_u64];omega
 unfold pageBs bodyOf;rw [if_neg (by omega),if_neg (by omega),if_pos hk];clear hR HRR B1 hk g hs hl;generalize g5t p=bd at *;have L1:=hid (g3g 1 p.kind.toNat);have L2:=hid (g1a s);generalize be 1 p.kind.toNat=t1 at *;generalize num2 s=t2 at *;unfold pgV;unfold pgC at *;go_enter Tryz.func237,Tryz.ntmps237
 go_wp2_with fail
 refine cL.mono ?_;rintro e w1 ⟨A1,n1,c1,rfl,h1,b1,-⟩;have d0:=cell_below c0 b1;have B2:=hid (HB1.out.trans (b1.mono HB1.out.size));have H1:=hid h1;clear h1 b1 cL c0;go_wp2_with fail
 refine (G1.out _).mono ?_;rintro e w2 ⟨A2,n2,c2,rfl,h2,b2,-⟩;have B3:=hid (B2.out.trans (b2.mono B2.out.size));have H1:=hid (H1.out.below b2);have H2:=hid h2;clear h2 b2 d0;go_wp2_with fail
 refine (G2.out _).mono ?_;rintro e w3 ⟨A3,n3,c3,rfl,h3,b3,-⟩;have B4:=hid (B3.out.trans (b3.mono B3.out.size));have H1:=hid (H1.out.below b3);have H2:=hid (H2.out.below b3);have H3:=hid h3;clear h3 b3;have CJ:=hid (g1h (some ⟨w3.heap.size,0,none⟩) 3 3 [(A2,c2,t1),(A3,c3,t2),(A1,c1,bd)] (w3.alloc (.cells #[.slice A2 n2 c2,.slice A3 n3 c3,.slice A1 n1 c1] 181)) rfl (by omega) (lits _ _ _ _ _ (by rw [g2d H1.out,g2d H2.out,g2d H3.out];rfl)) ((g1z.nil _).cons (H1.out.alloc _) |>.cons (H3.out.alloc _) |>.cons (H2.out.alloc _)) (by simp [g0t,L1.out,L2.out];have:=HL.out;omega))
 go_wp2_with fail
 refine CJ.out.mono ?_;rintro e w4 ⟨A4,n4,c4,rfl,h4,b4,f4⟩;have B5:=hid ((B4.out.alloc B4.out.size _).trans (b4.mono (B4.out.alloc B4.out.size _).size));have F4:=hid (fun a ha=>Nat.le_trans (B4.out.alloc B4.out.size _).size (f4 a ha));have H4:=hid h4;clear h4 b4 f4;go_wp2_with fail
 go_ret
 refine ⟨_,_,_,rfl,?_,B5.out,F4.out⟩;have h:=H4.out
 simpa [g0t] using h
theorem k8g (s:Int) (p:Pg) (a:Lay) (w:World) (hk:p.kind=4) (g:g6w p) (hs:g5r s):Calls Tryz.prog 237 #[.int .i64 s,pgV p a] w (Lays (pageBs s p) w):=by
 have k1:(p.kind==1)=false:=by rw [hk];rfl
 have k2:(p.kind==2)=false:=by rw [hk];rfl
 have k3:(p.kind==3)=false:=by rw [hk];rfl
 have k4:(p.kind==4)=true:=by rw [hk];rfl
 have B1:Below w.heap.size w (w.alloc (.cells (pgC p a) 103)):=(Below.refl _ _).alloc (Nat.le_refl _) _;have cL:=j1y p a (w.alloc (.cells (pgC p a) 103)) (by rcases g.root with h | h;unfold g5r;omega;exact g9y h) (by have:=g.depth;unfold g5r;omega) (by have:=g.count;unfold g5r;omega) (by have:=g.high;unfold g5r;omega) (by rcases g.next with h | h;unfold g5r;omega;exact g9y h)
 have c0:(w.alloc (.cells (pgC p a) 103)).cell? ⟨w.heap.size,0,none⟩=some (.int .i64 p.kind):=by simp [pgC]
 have HB1:=hid B1;have hl:(g4q p).length<=902:=by have:=h5o p;omega
 have HL:=hid hl;have G1:=hid (fun W=>g5x p.kind W (by unfold g5r;omega));have G2:=hid (fun W=>g1r s W hs);have e0:IntKind.u64.wrap p.kind=p.kind:=by rw [IntKind.wrap_u64];omega
 unfold pageBs bodyOf;rw [if_neg (by omega),if_neg (by omega),if_neg (by omega)];clear B1 hk g hs hl;generalize g4q p=bd at *;have L1:=hid (g3g 1 p.kind.toNat);have L2:=hid (g1a s);generalize be 1 p.kind.toNat=t1 at *;generalize num2 s=t2 at *;unfold pgV;unfold pgC at *;go_enter Tryz.func237,Tryz.ntmps237
 go_wp2_with fail
 refine cL.mono ?_;rintro e w1 ⟨A1,n1,c1,rfl,h1,b1,-⟩;have d0:=cell_below c0 b1;have B2:=hid (HB1.out.trans (b1.mono HB1.out.size));have H1:=hid h1;clear h1 b1 cL c0;go_wp2_with fail
 refine (G1.out _).mono ?_;rintro e w2 ⟨A2,n2,c2,rfl,h2,b2,-⟩;have B3:=hid (B2.out.trans (b2.mono B2.out.size));have H1:=hid (H1.out.below b2);have H2:=hid h2;clear h2 b2 d0;go_wp2_with fail
 refine (G2.out _).mono ?_;rintro e w3 ⟨A3,n3,c3,rfl,h3,b3,-⟩;have B4:=hid (B3.out.trans (b3.mono B3.out.size));have H1:=hid (H1.out.below b3);have H2:=hid (H2.out.below b3);have H3:=hid h3;clear h3 b3;have CJ:=hid (g1h (some ⟨w3.heap.size,0,none⟩) 3 3 [(A2,c2,t1),(A3,c3,t2),(A1,c1,bd)] (w3.alloc (.cells #[.slice A2 n2 c2,.slice A3 n3 c3,.slice A1 n1 c1] 181)) rfl (by omega) (lits _ _ _ _ _ (by rw [g2d H1.out,g2d H2.out,g2d H3.out];rfl)) ((g1z.nil _).cons (H1.out.alloc _) |>.cons (H3.out.alloc _) |>.cons (H2.out.alloc _)) (by simp [g0t,L1.out,L2.out];have:=HL.out;omega))
 go_wp2_with fail
 refine CJ.out.mono ?_;rintro e w4 ⟨A4,n4,c4,rfl,h4,b4,f4⟩;have B5:=hid ((B4.out.alloc B4.out.size _).trans (b4.mono (B4.out.alloc B4.out.size _).size));have F4:=hid (fun a ha=>Nat.le_trans (B4.out.alloc B4.out.size _).size (f4 a ha));have H4:=hid h4;clear h4 b4 f4;go_wp2_with fail
 go_ret
 refine ⟨_,_,_,rfl,?_,B5.out,F4.out⟩;have h:=H4.out
 simpa [g0t] using h
theorem h5h (s:Int) (p:Pg) (a:Lay) (w:World) (h:Fine p) (hR:g0c w p a) (hs:g5r s):Calls Tryz.prog 237 #[.int .i64 s,pgV p a] w (Lays (pageBs s p) w):=by
 rcases h with ⟨h,g,_⟩ | ⟨h,g,_⟩ | ⟨h,g,_⟩ | ⟨h,g,_⟩
 ·exact k7a s p a w h g hR hs
 ·exact k8z s p a w h g hR hs
 ·exact k7x s p a w h g hR hs
 ·exact k8g s p a w h g hs
theorem j5c {s:Int} {p:Pg} (h:Fine p):(pageBs s p).length<=1016:=by
 have:=k7e h;simp [pageBs,g1a,g3g];omega
theorem h1i {s:Int} {p:Pg} (h:p.kind=4):(pageBs s p).length=15:=by
 unfold pageBs bodyOf;rw [if_neg (by omega),if_neg (by omega),if_neg (by omega),List.length_append,List.length_append,h5o,g1a,g3g]
def zeros (n:Nat):Bs:=List.replicate n 0
theorem g8m {n:Nat} {l:Bs} (h:l.length<=n):(g5s n l).length=n:=by rw [g5s,List.length_append,List.length_replicate];omega
def h1b (l:Bs):Bs:=g5s 1016 l++be 8 (Crc.more 0 (g5s 1016 l))
def g2z (ep:Nat) (l:Bs):Bs:=be 8 ep++(g5s 496 l++(zeros 8++(g5s 496 l++(zeros 8++be 8 ep))))
theorem k0k (A:Option Addr) (n c:Nat) (l:Bs) (w:World) (h:BytesAt w A n c l) (hn:n<=1016):Calls Tryz.prog 238 #[.slice A n c] w (Lays (h1b l) w):=by
 have cF:=p0y A n c l w h hn;have hp:(g5s 1016 l).length=1016:=g8m (by rw [h.len];exact hn);have HP:=hid hp;unfold h1b;generalize g5s 1016 l=L at *;clear h hp;go_enter Tryz.func238,Tryz.ntmps238
 go_wp2_with fail
 refine cF.mono ?_;rintro e w1 ⟨A1,n1,c1,rfl,h1,b1,-⟩;have H1:=hid h1;have B1:=hid b1;have hn1:n1=1016:=by rw [<- h1.len];exact HP.out
 subst hn1;have cS:=Crc.p2h A1 1016 c1 L w1 h1.len (by omega) h1.row;clear h1 b1 cF;go_wp2_with fail
 refine cS.mono ?_;rintro e w2 ⟨rfl,b2⟩;have H1:=hid (H1.out.below b2);have B2:=hid (B1.out.trans (b2.mono B1.out.size));have hm:Crc.more 0 L<18446744073709551616:=Crc.p1b L (by omega);generalize Crc.more 0 L=m at *;have G:=hid (fun W=>j1h m W hm);have L8:=hid (g3g 8 m);generalize be 8 m=T at *;clear b2 cS;go_wp2_with fail
 refine (G.out _).mono ?_;rintro e w3 ⟨A3,n3,c3,rfl,h3,b3,-⟩;have H1:=hid (H1.out.below b3);have B3:=hid (B2.out.trans (b3.mono B2.out.size));have H3:=hid h3;clear h3 b3;have CJ:=hid (g1h (some ⟨w3.heap.size,0,none⟩) 2 2 [(A1,c1,L),(A3,c3,T)] (w3.alloc (.cells #[.slice A1 1016 c1,.slice A3 n3 c3] 181)) rfl (by omega) (lits _ _ _ _ _ (by rw [g2d H1.out,g2d H3.out];rfl)) ((g1z.nil _).cons (H3.out.alloc _) |>.cons (H1.out.alloc _)) (by simp [g0t,L8.out,HP.out]))
 go_wp2_with fail
 refine CJ.out.mono ?_;rintro e w4 ⟨A4,n4,c4,rfl,h4,b4,f4⟩;have B5:=hid ((B3.out.alloc B3.out.size _).trans (b4.mono (B3.out.alloc B3.out.size _).size));have F4:=hid (fun a ha=>Nat.le_trans (B3.out.alloc B3.out.size _).size (f4 a ha));have H4:=hid h4;clear h4 b4 f4;go_wp2_with fail
 go_ret
 refine ⟨_,_,_,rfl,?_,B5.out,F4.out⟩;have h:=H4.out
 simpa [g0t] using h
theorem j0p (T L Z:Bs) (h8:T.length=8) (hP:L.length=496) (hZ:Z.length=8) (W:World) (m:Nat) (hm:W.heap.size=m) (A1:Option Addr) (n1 c1:Nat) (A3:Option Addr) (n3 c3 b:Nat) (H1:BytesAt W A1 n1 c1 T) (H3:BytesAt W A3 n3 c3 L) (HZ:BytesAt W (some ⟨b,0,none⟩) 8 8 Z) :
 Calls Tryz.prog 260 #[.slice (some ⟨m,0,none⟩) 6 6] (W.alloc (.cells #[.slice A1 n1 c1,.slice A3 n3 c3,.slice (some ⟨b,0,none⟩) 8 8,.slice A3 n3 c3,.slice (some ⟨b,0,none⟩) 8 8,.slice A1 n1 c1] 181)) (Lays (T++(L++(Z++(L++(Z++T))))) (W.alloc (.cells #[.slice A1 n1 c1,.slice A3 n3 c3,.slice (some ⟨b,0,none⟩) 8 8,.slice A3 n3 c3,.slice (some ⟨b,0,none⟩) 8 8,.slice A1 n1 c1] 181))):=by
 subst hm;have h:=g1h (some ⟨W.heap.size,0,none⟩) 6 6 [(A1,c1,T),(A3,c3,L),(some ⟨b,0,none⟩,8,Z),(A3,c3,L),(some ⟨b,0,none⟩,8,Z),(A1,c1,T)] (W.alloc (.cells #[.slice A1 n1 c1,.slice A3 n3 c3,.slice (some ⟨b,0,none⟩) 8 8,.slice A3 n3 c3,.slice (some ⟨b,0,none⟩) 8 8,.slice A1 n1 c1] 181)) rfl (by omega)
  (lits _ _ _ _ _ (by rw [g2d H1,g2d HZ,g2d H3];rfl)) ((g1z.nil _).cons (H1.alloc _) |>.cons (HZ.alloc _) |>.cons (H3.alloc _) |>.cons (HZ.alloc _) |>.cons (H3.alloc _) |>.cons (H1.alloc _)) (by simp [g0t,h8,hP,hZ])
 simpa [g0t] using h
theorem j4s (ep:Nat) (A:Option Addr) (n c:Nat) (l:Bs) (w:World) (hep:ep<18446744073709551616) (h:BytesAt w A n c l) (hn:n<=496):Calls Tryz.prog 236 #[.int .u64 (ep:Int),.slice A n c] w (Lays (g2z ep l) w):=by
 have HH:=hid h;have hmk:∀ W,(Instr.makeSlice 181 (.int .i64 8) (.int .i64 8)).run Tryz.prog W=.ok (.slice (some ⟨W.heap.size,0,none⟩) 8 8) (W.alloc (.cells (rowC (zeros 8)) 5)):=fun W=>h8l 8 (by omega) W
 have hz:Hid (∀ W:World,BytesAt (W.alloc (.cells (rowC (zeros 8)) 5)) (some ⟨W.heap.size,0,none⟩) 8 8 (zeros 8)):=hid (fun W=>⟨by simp [zeros],Nat.le_refl _,by simp only [maxLen];omega,(fun h=>by cases h),k2v (At.of_block (heap_alloc_last W _))⟩);have G1:=hid (fun W=>j1h ep W hep);have hp:(g5s 496 l).length=496:=g8m (by rw [h.len];exact hn);have HP:=hid hp;have G2:=hid (fun W (hW:Below w.heap.size w W)=>k4n A n c l W (HH.out.below hW) hn)
 have L8:=hid (g3g 8 ep);have LZ:Hid ((zeros 8).length=8):=hid (by simp [zeros]);unfold g2z;generalize g5s 496 l=L at *;generalize be 8 ep=T at *;generalize zeros 8=Z at *;generalize rowC Z=R at *;have B0:=hid (Below.refl w.heap.size w).drew;clear h hp hn HH hep;go_enter Tryz.func236,Tryz.ntmps236
 have HZ0:Hid (BytesAt (w.alloc (.cells R 5)).drew (some ⟨w.heap.size,0,none⟩) 8 8 Z):=hid ((hz.out w).below (Below.refl _ _).drew);have HJ:=hid (fun W m hm A1 n1 c1 A3 n3 c3 b H1 H3 HZ=>j0p T L Z L8.out HP.out LZ.out W m hm A1 n1 c1 A3 n3 c3 b H1 H3 HZ);go_wp2_with fail
 go_region_with (first
  | (go_at_call 258;(with_reducible refine (G1.out _).mono ?_);rintro e w1 ⟨A1,n1,c1,rfl,h1,b1,-⟩;have B1:Hid (Below w.heap.size w w1):=hid (by first | exact B0.out.trans (b1.mono B0.out.size) | exact (B0.out.alloc B0.out.size _).trans (b1.mono (B0.out.alloc B0.out.size _).size));have H1:=hid h1;have HB1:=hid b1;clear h1 b1)
  | (go_at_call 259;(with_reducible (first | refine (G2.out _ B1.out).mono ?_ | refine (G2.out _ (B1.out.alloc B1.out.size _)).mono ?_));rintro e w3 ⟨A3,n3,c3,rfl,h3,b3,-⟩;have B3:Hid (Below w.heap.size w w3):=hid (by first | exact B1.out.trans (b3.mono B1.out.size) | exact (B1.out.alloc B1.out.size _).trans (b3.mono (B1.out.alloc B1.out.size _).size));have H3:=hid h3;have HB3:=hid b3;clear h3 b3))
 all_goals clear hmk
 all_goals go_wp2_with fail
 all_goals (first
  | ((with_reducible refine (HJ.out w3 _ rfl A1 n1 c1 A3 n3 c3 _ (H1.out.below HB3.out) H3.out ((HZ0.out.below HB1.out).below HB3.out)).mono ?_);have BF:=hid B3.out)
  | ((with_reducible refine (HJ.out w3 _ rfl A1 n1 c1 A3 n3 c3 _ ((H1.out.alloc _).below HB3.out) H3.out ((hz.out w1).below HB3.out)).mono ?_);have BF:=hid B3.out)
  | ((with_reducible refine (HJ.out _ _ (World.size_alloc _ _) A1 n1 c1 A3 n3 c3 _ ((H1.out.below HB3.out).alloc _) (H3.out.alloc _) (hz.out w3)).mono ?_);have BF:=hid (B3.out.alloc B3.out.size (.cells R 5))))
 all_goals
  rintro e w4 ⟨A4,n4,c4,rfl,h4,b4,f4⟩;have B5:=hid ((BF.out.alloc BF.out.size _).trans (b4.mono (BF.out.alloc BF.out.size _).size));have F4:=hid (fun a ha=>Nat.le_trans (BF.out.alloc BF.out.size _).size (f4 a ha));have H4:=hid h4;clear h4 b4 f4;go_wp2_with fail
  go_ret
  exact ⟨_,_,_,rfl,H4.out,B5.out,F4.out⟩
def Enc (s:Int) (p:Pg) (l:Bs):Prop:=Fine p/\(p.kind=4/\(s=0\/s=1)/\l=g2z p.epoch (pageBs s p)\/p.kind≠4/\Place s/\l=h1b (pageBs s p))
def j0e (s:Int) (p:Pg) (w:World) (e:Ending) (w':World):Prop :=
 (∃ A n c l,e=.returned (.tuple #[.slice A n c,numV 0])/\BytesAt w' A n c l/\Enc s p l/\Below w.heap.size w w')\/(e=.returned (.tuple #[.slice none 0 0,numV 50])/\(∀ l,¬ Enc s p l)/\Below w.heap.size w w')
theorem p2i {b:Nat} (w:World) (p:Pg) (a:Lay) (h:At w b (pgC p a)):∀ W,Below w.heap.size w W->W.cell? ⟨b,0,none⟩=some (.int .i64 p.kind)/\W.cell? ⟨b,1,none⟩=some (.slice a.A1 p.pairs.length a.c1)/\W.cell? ⟨b,2,none⟩=some (.slice a.A2 p.keys.length a.c2)/\W.cell? ⟨b,3,none⟩=some (.slice a.A3 p.kids.length a.c3)/\W.cell? ⟨b,4,none⟩=some (.slice a.A4 p.pages.length a.c4)/\W.cell? ⟨b,5,none⟩=some (.int .i64 p.next)/\W.cell? ⟨b,6,none⟩=some (.int .u64 (p.epoch:Int))/\W.cell? ⟨b,7,none⟩=some (.int .i64 p.root)/\W.cell? ⟨b,8,none⟩=some (.int .i64 p.depth)/\W.cell? ⟨b,9,none⟩=some (.int .i64 p.count)/\W.cell? ⟨b,10,none⟩=some (.int .i64 p.high):=fun W hb=>by
 have h:=h.below hb h.1;exact ⟨h.2.2 0 _ rfl,h.2.2 1 _ rfl,h.2.2 2 _ rfl,h.2.2 3 _ rfl,h.2.2 4 _ rfl,h.2.2 5 _ rfl,h.2.2 6 _ rfl,h.2.2 7 _ rfl,h.2.2 8 _ rfl,h.2.2 9 _ rfl,h.2.2 10 _ rfl⟩
theorem k5h (w:World) (p:Pg) (a:Lay):At (w.alloc (.cells (pgC p a) 103)) w.heap.size (pgC p a):=At.of_block (heap_alloc_last w _)
theorem j0b (w:World) (o:Obj):w.heap.size<(w.alloc o).heap.size:=by simp
theorem k2f {a b:Int} (h:a≠b):(a==b)=false:=beq_eq_false_iff_ne.2 h
theorem k0h (s:Int) (p:Pg) (a:Lay) (w:World) (hok:PgOk p) (hR:g0c w p a) (hf:¬ Fine p):Calls Tryz.prog 197 #[.int .i64 s,pgV p a] w (j0e s p w):=by
 have B1:=hid ((Below.refl w.heap.size w).alloc (Nat.le_refl _) (.cells (pgC p a) 103));have AT:=hid (k5h w p a);have LT:=hid (j0b w (.cells (pgC p a) 103));have cC:=h1g p a (w.alloc (.cells (pgC p a) 103)) hok (hR.below ((Below.refl _ _).alloc (Nat.le_refl _) _));have HF:=hid hf;clear hok hR hf;unfold pgV;unfold pgC at B1 cC LT;go_enter Tryz.func197,Tryz.ntmps197
 go_wp2_with fail
 refine cC.mono ?_;rintro e w1 ⟨x,rfl,hx,b1⟩;have B2:=hid (B1.out.trans (b1.mono B1.out.size));have A1:=AT.out.below b1 LT.out;obtain ⟨rfl,hn⟩:x=50/\¬ Fine p:=hx.elim (fun h=>absurd h.2 HF.out) id;clear hx hn A1 b1 cC;go_wp2_with fail
 go_ret2
 exact .inr ⟨rfl,fun l h=>HF.out h.1,B2.out⟩
theorem j2a (s:Int) (p:Pg) (a:Lay) (w:World) (hok:PgOk p) (hR:g0c w p a) (hf:Fine p) (hk:p.kind≠4):Calls Tryz.prog 197 #[.int .i64 s,pgV p a] w (j0e s p w):=by
 have B1:=hid ((Below.refl w.heap.size w).alloc (Nat.le_refl _) (.cells (pgC p a) 103));have AT:=hid (k5h w p a);have LT:=hid (j0b w (.cells (pgC p a) 103));have cC:=h1g p a (w.alloc (.cells (pgC p a) 103)) hok (hR.below ((Below.refl _ _).alloc (Nat.le_refl _) _));have HF:=hid hf;have HR:=hid (hR.below ((Below.refl w.heap.size w).alloc (Nat.le_refl _) (.cells (pgC p a) 103)));have k4:(p.kind==4)=false:=k2f hk
 have k5:(p.kind != 4)=true:=by simp [bne,k4]
 have HK:=hid hk;clear hok hR hf hk;unfold pgC at HR;unfold pgV;unfold pgC at B1 cC LT;go_enter Tryz.func197,Tryz.ntmps197
 go_wp2_with fail
 refine cC.mono ?_;rintro e w1 ⟨x,rfl,hx,b1⟩;have B2:=hid (B1.out.trans (b1.mono B1.out.size));have A1:=AT.out.below b1 LT.out;obtain ⟨rfl,-⟩:x=0/\Fine p:=hx.elim id (fun h=>absurd HF.out h.2);have HR1:=hid (HR.out.below b1);have c0:=A1.2.2 0 _ rfl;have c1:=A1.2.2 1 _ rfl;have c2:=A1.2.2 2 _ rfl;have c3:=A1.2.2 3 _ rfl;have c4:=A1.2.2 4 _ rfl;have c5:=A1.2.2 5 _ rfl;have c6:=A1.2.2 6 _ rfl;have c7:=A1.2.2 7 _ rfl
 have c8:=A1.2.2 8 _ rfl;have c9:=A1.2.2 9 _ rfl;have c10:=A1.2.2 10 _ rfl;clear hx A1 b1 cC AT;go_wp2_with fail
 refine (g9s _ _).mono ?_;rintro e w' ⟨r,rfl,hr,rfl⟩;rcases r with _ | _
 ·have HN:=hid hr;clear hr c0 c1 c2 c3 c4 c5 c6 c7 c8 c9 c10;go_wp2_with fail
  go_ret2
  exact .inr ⟨rfl,fun l h=>h.2.elim (fun g=>HK.out g.1) (fun g=>by cases (HN.out.2 g.2.1)),B2.out⟩
 have HN:=hid (hr.1 rfl);clear hr;have cP:=h5h s p a w1 HF.out HR1.out (g9y HN.out);have HL:=hid (j5c (s:=s) HF.out);go_wp2_with fail
 refine cP.mono ?_;rintro e w2 ⟨A2,n2,c2',rfl,h2,b2,-⟩;have cS:=k0k A2 n2 c2' _ w2 h2 (by rw [<- h2.len];exact HL.out);have B3:=hid (B2.out.trans (b2.mono B2.out.size));clear h2 b2 cP c0 c1 c2 c3 c4 c5 c6 c7 c8 c9 c10;go_wp2_with fail
 refine cS.mono ?_;rintro e w3 ⟨A3,n3,c3,rfl,h3,b3,-⟩;have B4:=hid (B3.out.trans (b3.mono B3.out.size));have H3:=hid h3;clear h3 b3 cS;go_wp2_with fail
 go_ret2
 exact .inl ⟨_,_,_,_,rfl,H3.out,⟨HF.out,.inr ⟨HK.out,HN.out,rfl⟩⟩,B4.out⟩
theorem j1o (s:Int) (p:Pg) (a:Lay) (w:World) (hok:PgOk p) (hR:g0c w p a) (hf:Fine p) (hk:p.kind=4):Calls Tryz.prog 197 #[.int .i64 s,pgV p a] w (j0e s p w):=by
 have B1:=hid ((Below.refl w.heap.size w).alloc (Nat.le_refl _) (.cells (pgC p a) 103));have AT:=hid (k5h w p a);have LT:=hid (j0b w (.cells (pgC p a) 103));have cC:=h1g p a (w.alloc (.cells (pgC p a) 103)) hok (hR.below ((Below.refl _ _).alloc (Nat.le_refl _) _));have HF:=hid hf;have HR:=hid (hR.below ((Below.refl w.heap.size w).alloc (Nat.le_refl _) (.cells (pgC p a) 103)));have k4:(p.kind==4)=true:=by rw [hk];rfl
 have k5:(p.kind != 4)=false:=by simp [bne,k4]
 have HK:=hid hk;have HE:=hid hok.epoch;clear hok hR hf hk;unfold pgC at HR;unfold pgV;unfold pgC at B1 cC LT;go_enter Tryz.func197,Tryz.ntmps197
 go_wp2_with fail
 refine cC.mono ?_;rintro e w1 ⟨x,rfl,hx,b1⟩;have B2:=hid (B1.out.trans (b1.mono B1.out.size));have A1:=AT.out.below b1 LT.out;obtain ⟨rfl,-⟩:x=0/\Fine p:=hx.elim id (fun h=>absurd HF.out h.2);have HR1:=hid (HR.out.below b1);have KS:=hid (p2i w1 p a A1);have c0:=A1.2.2 0 _ rfl;have c1:=A1.2.2 1 _ rfl;have c2:=A1.2.2 2 _ rfl;have c3:=A1.2.2 3 _ rfl;have c4:=A1.2.2 4 _ rfl;have c5:=A1.2.2 5 _ rfl
 have c6:=A1.2.2 6 _ rfl;have c7:=A1.2.2 7 _ rfl;have c8:=A1.2.2 8 _ rfl;have c9:=A1.2.2 9 _ rfl;have c10:=A1.2.2 10 _ rfl;clear hx A1 b1 cC AT;go_wp2_with fail
 refine (g8r _ _).mono ?_;rintro e w' ⟨r,rfl,hr,rfl⟩;rcases r with _ | _
 ·have HN:=hid hr;clear hr;go_wp2_with fail
  go_ret2
  exact .inr ⟨rfl,fun l h=>h.2.elim (fun g=>by cases (HN.out.2 g.2.1)) (fun g=>g.1 HK.out),B2.out⟩
 have HN:=hid (hr.1 rfl);clear hr c0 c1 c2 c3 c4 c5 c6 c7 c8 c9 c10;have R0:=hid (Below.refl w1.heap.size w1).drew;have K0:=hid (KS.out _ R0.out);have cP:=hid (h5h s p a w1.drew HF.out (HR1.out.below R0.out) (by have:=HN.out;unfold g5r;omega));have HL:=hid (h1i (s:=s) HK.out);go_wp2_with fail
 go_region_held3 (fun w'=>w'.cell? ⟨w.heap.size,0,none⟩=some (.int .i64 p.kind)/\w'.cell? ⟨w.heap.size,1,none⟩=some (.slice a.A1 p.pairs.length a.c1)/\w'.cell? ⟨w.heap.size,2,none⟩=some (.slice a.A2 p.keys.length a.c2)/\w'.cell? ⟨w.heap.size,3,none⟩=some (.slice a.A3 p.kids.length a.c3)/\w'.cell? ⟨w.heap.size,4,none⟩=some (.slice a.A4 p.pages.length a.c4)/\w'.cell? ⟨w.heap.size,5,none⟩=some (.int .i64 p.next)/\w'.cell? ⟨w.heap.size,6,none⟩=some (.int .u64 (p.epoch:Int))/\w'.cell? ⟨w.heap.size,7,none⟩=some (.int .i64 p.root)/\w'.cell? ⟨w.heap.size,8,none⟩=some (.int .i64 p.depth)/\w'.cell? ⟨w.heap.size,9,none⟩=some (.int .i64 p.count)/\w'.cell? ⟨w.heap.size,10,none⟩=some (.int .i64 p.high))
  (with_reducible (first | exact K0.out | exact K2.out | exact K3.out))
  (first
    | (go_at_call 237;(refine cP.out.mono ?_);rintro e w2 ⟨A2,n2,c2',rfl,h2,b2,-⟩;have R2:=hid (R0.out.trans (b2.mono R0.out.size));have K2:=hid (KS.out _ R2.out);have cD:=hid (j4s p.epoch A2 n2 c2' _ w2 HE.out h2 (by rw [<- h2.len,HL.out];omega));clear h2 b2)
    | (go_at_call 236;(with_reducible refine cD.out.mono ?_);rintro e w3 ⟨A3,n3,c3',rfl,h3,b3,-⟩;have R3:=hid (R2.out.trans (b3.mono R2.out.size));have K3:=hid (KS.out _ R3.out);have H3:=hid h3;clear h3 b3))
 clear K0 K2 K3;go_wp2_with fail
 go_ret2
 exact .inl ⟨_,_,_,_,rfl,H3.out,⟨HF.out,.inl ⟨HK.out,HN.out,rfl⟩⟩,B2.out.trans (R3.out.mono B2.out.size)⟩
theorem h1x (s:Int) (p:Pg) (a:Lay) (w:World) (hok:PgOk p) (hR:g0c w p a):Calls Tryz.prog 197 #[.int .i64 s,pgV p a] w (j0e s p w):=by
 by_cases hf:Fine p
 ·by_cases hk:p.kind=4
  ·exact j1o s p a w hok hR hf hk
  ·exact j2a s p a w hok hR hf hk
 ·exact k0h s p a w hok hR hf
abbrev ptr (b:Nat):Value:=.pointer (some ⟨b,0,none⟩)
def Rd (w:World) (rb:Nat) (u:Bs):Prop:=∃ A n c,w.cell? ⟨rb,0,none⟩=some (.slice A n c)/\w.frozen? ⟨rb,0,none⟩=false/\BytesAt w A n c u/\∀ a,A=some a->u≠[]->a.block<rb
theorem Rd.lt {w:World} {rb:Nat} {u:Bs} (h:Rd w rb u):rb<w.heap.size:=by
 obtain ⟨A,n,c,h,_⟩:=h;exact g8b h
theorem BytesAt.grown {w w':World} {A:Option Addr} {n c rb:Nat} {l:Bs} (h:BytesAt w A n c l) (g:w.grownBy w' (some rb)) (ha:l≠[]->∀ a,A=some a->a.block≠rb):BytesAt w' A n c l :=
 ⟨h.len,h.cap,h.max,h.nil,g3z h.row g (fun hne a e=>by simpa using ha hne a e)⟩
theorem g0r (w:World) (rb o:Nat) (v:Value):w.grownBy (w.setCell ⟨rb,o,none⟩ v) (some rb) :=
 ⟨rfl,rfl,rfl,by simp,fun k _ hne=>Below.heap_setCell _ _ _ _ (by simpa using hne)⟩
theorem Rd.set {w:World} {rb:Nat} {u:Bs} (h:Rd w rb u) {A:Option Addr} {n c:Nat} {l:Bs} (hb:BytesAt w A n c l) (ha:∀ a,A=some a->l≠[]->a.block<rb):Rd (w.setCell ⟨rb,0,none⟩ (.slice A n c)) rb l:=by
 obtain ⟨A0,n0,c0,h0,hf,_⟩:=h;exact ⟨A,n,c,World.cell?_setCell_same _ _ _ h0,by rw [World.frozen?_setCell];exact hf,hb.grown (g0r _ _ _ _) (fun hne a e=>by have:=ha a e hne;omega),ha⟩
theorem add_zero (a:Addr):a.add 0=a:=by unfold Addr.add;split <;> simp_all
theorem h3l (b o j:Nat):(⟨b,o,none⟩:Addr).add j=⟨b,o+j,none⟩:=by unfold Addr.add;split <;> simp_all
theorem k5k:Tryz.prog.underlying 276=some (.slice (Tryz.prog.elem 276)):=by kernel_rfl
theorem k0r (w:World):(sizeOf (Tryz.prog.elem 276)).run Tryz.prog w=.ok 1 w:=by kernel_rfl
theorem j0c (A:Option Addr) (n c k:Nat) (h:k<=c) (W:World):(Instr.slice 276 (.slice A n c) none (some (.int .i64 k)) none).run Tryz.prog W=.ok (.slice A k c) W:=by
 rw [run_slice_h W 276 A n c k5k .i64 (k:Int) (by omega) (by omega),k0r];unfold sliced;rcases A with _ | a
 ·simp [Result.andThen]
 ·simp [Result.andThen,add_zero]
theorem h1e (A:Option Addr) (n c k:Nat) (h:k<=n) (W:World):(Instr.slice 276 (.slice A n c) (some (.int .i64 k)) none none).run Tryz.prog W=.ok (.slice (if c=k then A else A.map (·.add k)) (n-k) (c-k)) W:=by
 rw [run_slice_l W 276 A n c k5k .i64 (k:Int) (by omega) (by omega),k0r];unfold sliced;simp [Result.andThen]
theorem BytesAt.head {w:World} {A:Option Addr} {n c:Nat} {l:Bs} (h:BytesAt w A n c l) {k:Nat} (hk:k<=n):BytesAt w A k c (l.take k) :=
 ⟨by rw [List.length_take,h.len];omega,Nat.le_trans hk h.cap,h.max,h.nil,fun hne=>by
  obtain ⟨b,off,e,hb,hc⟩:=h.row (by intro e;subst e;simp at hne);refine ⟨b,off,e,hb,fun j hj=>?_⟩;rw [List.length_take] at hj;rw [hc j (by omega),List.getElem_take]⟩
theorem BytesAt.tail {w:World} {A:Option Addr} {n c:Nat} {l:Bs} (h:BytesAt w A n c l) {k:Nat}:BytesAt w (if c=k then A else A.map (·.add k)) (n-k) (c-k) (l.drop k):=by
 refine ⟨by rw [List.length_drop,h.len],Nat.sub_le_sub_right h.cap k,Nat.le_trans (Nat.sub_le _ _) h.max,fun e=>?_,fun hne=>?_⟩
 ·split at e
  ·have:=h.nil e;omega
  ·rcases A with _ | a
   ·have:=h.nil rfl;omega
   ·simp at e
 ·have hkl:k<n:=by
   rcases Nat.lt_or_ge k n with h1 | h1
   ·exact h1
   ·exact absurd (List.drop_eq_nil_of_le (by rw [h.len];omega)) hne
  obtain ⟨b,off,rfl,hb,hc⟩:=h.row (by intro e;subst e;simp at hne);have:=h.cap;rw [if_neg (by omega)];refine ⟨b,off+k,by simp [h3l],hb,fun j hj=>?_⟩;rw [List.length_drop] at hj;rw [Nat.add_assoc,hc (k+j) (by omega),List.getElem_drop]
theorem j8h {A:Option Addr} {c k rb:Nat} (h:∀ a,A=some a->a.block<rb):∀ a,(if c=k then A else A.map (·.add k))=some a->a.block<rb:=fun a e=>by
 split at e
 ·exact h a e
 ·rcases A with _ | a0
  ·cases e
  ·have:=h a0 rfl;simp only [Option.map_some,Option.some.injEq] at e;subst e;unfold Addr.add
   split <;> simpa using this
abbrev h8c:Ending:=.panicked [{v:=.iface 36 (.int .i64 50),recovered:=false}]
def g5m (k:Nat) (u:Bs) (rb:Nat) (w:World) (e:Ending) (w':World):Prop :=
 ∃ A c,e=.returned (.slice A k c)/\BytesAt w' A k c (u.take k)/\Rd w' rb (u.drop k)/\w.grownBy w' (some rb)
theorem h2p (rb k:Nat) (u:Bs) (w:World) (h:Rd w rb u) (hk:k<=u.length):Calls Tryz.prog 267 #[ptr rb,.int .i64 (k:Int)] w (g5m k u rb w):=by
 have h0:=h;obtain ⟨A,n,c,hc,hf,hb,ha⟩:=h;have hkn:k<=n:=by rw [<- hb.len];exact hk
 have d:¬ n<k:=by omega
 have s1:=j0c A n c k (Nat.le_trans hkn hb.cap);have s2:=h1e A n c k hkn;have ht:=hb.tail (k:=k);have hblk:∀ a,(if c=k then A else A.map (·.add k))=some a->u.drop k≠[]->a.block<rb:=fun a e hne=>j8h (fun a' e'=>ha a' e' (by intro e;subst e;simp at hne)) a e
 generalize (if c=k then A else A.map (·.add k))=A2 at *;have R:=hid (h0.set ht hblk);have H:=hid ((hb.head hkn).grown (g0r w rb 0 (.slice A2 (n-k) (c-k))) (fun hne a e=>by have:=ha a e (by intro e;subst e;simp at hne);omega));have i1:(k:Int)<=(n:Int):=by omega
 have i2:(0:Int)<=(k:Int):=by omega
 clear h0 hb ha hk hkn ht hblk;go_enter Tryz.func267,Tryz.ntmps267
 go_wp2_with fail
 go_ret
 exact ⟨_,_,rfl,H.out,R.out,g0r _ _ _ _⟩
theorem h9q (rb k:Nat) (u:Bs) (w:World) (h:Rd w rb u) (hk:u.length<k):Calls Tryz.prog 267 #[ptr rb,.int .i64 (k:Int)] w fun e w'=>e=h8c/\w.grownBy w' (some rb):=by
 obtain ⟨A,n,c,hc,hf,hb,ha⟩:=h;have d:n<k:=by have:=hb.len;omega
 clear hb ha hk hf;go_enter Tryz.func267,Tryz.ntmps267
 go_wp2_with fail
 exact ⟨rfl,rfl,World.grownBy.refl _ _⟩
def ofBe (l:Bs):Nat:=l.foldl (fun n b=>n*256+b.toNat) 0
theorem k4z (l:Bs) (b:UInt8):ofBe (l++[b])=ofBe l*256+b.toNat:=by simp [ofBe]
theorem j3y:∀ (l:Bs),ofBe l<256 ^ l.length:=by
 have h:∀ (l:Bs) (n m:Nat),n<256 ^ m->l.foldl (fun n b=>n*256+b.toNat) n<256 ^ (m+l.length):=by
  intro l
  induction l with
  | nil=>intro n m h;exact h
  | cons b l ih =>
   intro n m h;have:=b.toNat_lt;rw [List.foldl_cons,List.length_cons,show m+(l.length+1)=(m+1)+l.length by omega];refine ih _ _ ?_;rw [Nat.pow_succ];omega
 intro l
 simpa [ofBe] using h l 0 0 (by simp)
theorem p1z (n:Nat) (b:UInt8) (h:n<72057594037927936):bits BinOp.or IntKind.u64 ((n:Int)*256) (b.toNat:Int)=((n*256+b.toNat:Nat):Int):=by
 have hb:=b.toNat_lt;have:=bits_or_u64_nat (n*256) b.toNat (by omega) (by omega);rw [show (n:Int)*256=((n*256:Nat):Int) by omega,this,Nat.mul_comm,<- Nat.two_pow_add_eq_or_of_lt (i:=8) (by omega)]
def p2z (k:Nat) (u:Bs) (rb:Nat) (w:World) (e:Ending) (w':World):Prop :=
 e=.returned (.int .u64 (ofBe (u.take k):Nat))/\Rd w' rb (u.drop k)/\w.grownBy w' (some rb)
theorem k3p {l:Bs} {j:Nat} (h:j<l.length):ofBe (l.take (j+1))=ofBe (l.take j)*256+l[j].toNat:=by
 rw [List.take_succ_eq_append_getElem h,k4z]
theorem j0u {l:Bs} {j:Nat} (hj:j<8):ofBe (l.take j)<72057594037927936 :=
 Nat.lt_of_lt_of_le (j3y _) (Nat.le_trans (Nat.pow_le_pow_right (by omega) (show (l.take j).length<=7 by rw [List.length_take];omega)) (by decide))
theorem p1x (rb k:Nat) (u:Bs) (w:World) (h:Rd w rb u) (hk:k<=u.length) (hk8:k<=8):Calls Tryz.prog 243 #[ptr rb,.int .i64 (k:Int)] w (p2z k u rb w):=by
 have cT:=h2p rb k u w h hk;unfold p2z;have hl:(u.take k).length=k:=by rw [List.length_take];omega
 unfold g5m at cT;generalize u.take k=l at *;clear h hk;have HL:=hid hl;clear hl;go_enter Tryz.func243,Tryz.ntmps243
 go_wp2_with fail
 refine cT.mono ?_;rintro e w1 ⟨A,c,rfl,hb,hr,hg⟩;have HB:=hid hb.row;have HR:=hid hr;have HG:=hid hg;clear hb hr hg cT;go_wp2_with fail
 go_loop [5,12] (fun x i=>∃ j n:Nat,i=.int .i64 j/\x=.int .u64 (n:Int)/\j<=k/\Hid (n=ofBe (l.take j))) (fun _ i=>k-(intOf i).toNat)
 case atStart=>exact ⟨0,0,rfl,rfl,Nat.zero_le _,hid rfl⟩
 case round =>
  obtain ⟨j,n,rfl,rfl,hj,hQ⟩:=hrel
  by_cases hlt:j<k
  ·have hjl:j<l.length:=by have:=HL.out;omega
   obtain ⟨b,off,rfl,hbl,hc⟩:=HB.out (by intro e;subst e;simp at hjl);have hcj:=hc j hjl;have hn:n<72057594037927936:=by rw [hQ.out];exact j0u (by omega)
   have HQ:Hid (n*256+l[j].toNat=ofBe (l.take (j+1))):=hid (by rw [k3p hjl,hQ.out]);have hor:=p1z n l[j] hn;generalize l[j]=x at *;have hw:IntKind.u64.wrap ((n:Int)*256)=(n:Int)*256:=by rw [IntKind.wrap_u64];omega
   have hx:=x.toNat_lt;have hxw:IntKind.u64.wrap (x.toNat:Int)=(x.toNat:Int):=by rw [IntKind.wrap_u64];omega
   clear hc hQ;go_wp2_with fail
   go_round
   case rel=>exact ⟨j+1,n*256+x.toNat,by go_num,rfl,by omega,HQ⟩
   case measure=>simp [intOf];omega
  ·obtain rfl:j=k:=by omega
   rw [List.take_of_length_le (by have:=HL.out;omega)] at hQ;go_wp2_with fail
   go_ret
   exact ⟨congrArg (fun n:Nat=>Ending.returned (.int .u64 (n:Int))) hQ.out,HR.out,HG.out⟩
theorem k8x (rb k:Nat) (u:Bs) (w:World) (h:Rd w rb u) (hk:u.length<k):Calls Tryz.prog 243 #[ptr rb,.int .i64 (k:Int)] w fun e w'=>e=h8c/\w.grownBy w' (some rb):=by
 have cT:=h9q rb k u w h hk;clear h hk;go_enter Tryz.func243,Tryz.ntmps243
 go_wp2_with fail
 refine cT.mono ?_;rintro e w1 ⟨rfl,hg⟩;exact ⟨rfl,rfl,hg⟩
def g6k (k:Nat) (u:Bs):Option (Nat×Bs):=if k<=u.length then some (ofBe (u.take k),u.drop k) else none
def rNum (u:Bs):Option (Int×Bs):=(g6k 2 u).map fun x=>((x.1:Int),x.2)
def g9z (u:Bs):Option (Bs×Bs):=(g6k 1 u).bind fun x=>if x.1<=x.2.length then some (x.2.take x.1,x.2.drop x.1) else none
def Reads {α:Type} (r:Option (α×Bs)) (enc:α->Value) (rb:Nat) (w:World) (e:Ending) (w':World):Prop :=
 w.grownBy w' (some rb)/\match r with
 | none=>e=h8c
 | some (x,u)=>e=.returned (enc x)/\Rd w' rb u
theorem h0y (rb k:Nat) (u:Bs) (w:World) (h:Rd w rb u) (hk8:k<=8):Calls Tryz.prog 243 #[ptr rb,.int .i64 (k:Int)] w (Reads (g6k k u) (fun n:Nat=>.int .u64 (n:Int)) rb w):=by
 unfold Reads g6k
 by_cases hk:k<=u.length
 ·rw [if_pos hk];refine (p1x rb k u w h hk hk8).mono ?_;rintro e w' ⟨h1,h2,h3⟩;exact ⟨h3,h1,h2⟩
 ·rw [if_neg hk];refine (k8x rb k u w h (by omega)).mono ?_;rintro e w' ⟨h1,h3⟩;exact ⟨h3,h1⟩
theorem h4f {k:Nat} {u v:Bs} {n:Nat} (h:g6k k u=some (n,v)) (hk:k<=8):n<256 ^ k/\n<18446744073709551616:=by
 unfold g6k at h
 split at h
 ·simp only [Option.some.injEq,Prod.mk.injEq] at h
  rename_i hl
  have:=j3y (u.take k);rw [List.length_take,show min k u.length=k by omega,h.1] at this;exact ⟨this,Nat.lt_of_lt_of_le this (Nat.le_trans (Nat.pow_le_pow_right (by omega) hk) (by decide))⟩
 ·cases h
theorem g2u (rb:Nat) (u:Bs) (w:World) (h:Rd w rb u):Calls Tryz.prog 276 #[ptr rb] w (Reads (rNum u) numV rb w):=by
 have cW:=h0y rb 2 u w h (by omega);clear h;rcases hr:g6k 2 u with _ | ⟨n,v⟩
 ·have e0:rNum u=none:=by simp [rNum,hr]
  rw [hr] at cW;rw [e0];clear hr e0;go_enter Tryz.func276,Tryz.ntmps276
  go_wp2_with fail
  refine cW.mono ?_;rintro e w1 ⟨hg,rfl⟩;exact ⟨rfl,hg,rfl⟩
 ·rw [hr] at cW;have hlt:=(h4f hr (by omega)).1;have e0:rNum u=some ((n:Int),v):=by simp [rNum,hr]
  rw [e0];clear e0;have hw:IntKind.i64.wrap (n:Int)=(n:Int):=by rw [IntKind.wrap_i64];omega
  clear hr;go_enter Tryz.func276,Tryz.ntmps276
  go_wp2_with fail
  refine cW.mono ?_;rintro e w1 ⟨hg,rfl,hv⟩;have HG:=hid hg;have HV:=hid hv;clear hg hv cW;go_wp2_with fail
  go_ret
  exact ⟨HG.out,rfl,HV.out⟩
theorem h8j {w:World} {A:Option Addr} {l:Bs} {n:Nat} (c:Nat) (hl:l.length=n) (hR:BRow w A l):(convert 181 9 (.slice A n c)).run Tryz.prog w=.ok (.string (strB l)) w:=by
 rcases A with _ | a
 ·have e:l=[]:=by
   by_cases h:l=[]
   ·exact h
   ·obtain ⟨_,_,h,_⟩:=hR h;cases h
  subst e;rw [run_convert_bytes_nil w 181 5 Tryz.underlying181 Tryz.underlying5 _ _ 9 Tryz.underlying9]
  rfl
 ·have hload:(loadCells a n).run Tryz.prog w=.ok ((l.map fun c=>(c.toNat:Int)).map (Value.int .u8)).toArray w:=by
   by_cases h:l=[]
   ·subst h;obtain rfl:n=0:=hl.symm;simp [loadCells,loadCellsFrom]
   ·obtain ⟨b,off,e,_,hc⟩:=hR h;cases e;have:=run_loadCells_list (P:=Tryz.prog) w ⟨b,off,none⟩ ((l.map fun c=>(c.toNat:Int)).map (Value.int .u8)) (fun j v hj=>by
     have hplain:(⟨b,off,none⟩:Addr).add j=⟨b,off+j,none⟩:=by unfold Addr.add;split <;> simp_all
     rw [List.map_map,List.getElem?_map,Option.map_eq_some_iff] at hj;obtain ⟨x,hx,rfl⟩:=hj;obtain ⟨hjl,hx⟩:=List.getElem?_eq_some_iff.1 hx;rw [hplain,hc j hjl,hx];rfl)
    simpa [hl] using this
  rw [run_convert_bytes_string w 181 9 5 _ n c Tryz.underlying181 Tryz.underlying5 Tryz.underlying9,run_bytesToString w _ n c _ hload,foldl_push_bytes];have e2:(l.map fun c=>(c.toNat:Int)).map (fun n=>UInt8.ofNat n.toNat)=l:=by
   rw [List.map_map]
   conv=>rhs;rw [<- List.map_id l]
   exact List.map_congr_left (fun c _=>by simp)
  rw [e2];simp [strB,ByteArray.empty,ByteArray.emptyWithCapacity]
  rfl
theorem h9u (rb:Nat) (u:Bs) (w:World) (h:Rd w rb u):Calls Tryz.prog 277 #[ptr rb] w (Reads (g9z u) strV rb w):=by
 have cW:=h0y rb 1 u w h (by omega);clear h;rcases hr:g6k 1 u with _ | ⟨n,v⟩
 ·have e0:g9z u=none:=by simp [g9z,hr]
  rw [hr] at cW;rw [e0];clear hr e0;go_enter Tryz.func277,Tryz.ntmps277
  go_wp2_with fail
  refine cW.mono ?_;rintro e w1 ⟨hg,rfl⟩;exact ⟨rfl,hg,rfl⟩
 ·rw [hr] at cW;have hlt:=(h4f hr (by omega)).1;have hw:IntKind.i64.wrap (n:Int)=(n:Int):=by rw [IntKind.wrap_i64];omega
  by_cases hn:n<=v.length
  ·have e0:g9z u=some (v.take n,v.drop n):=by simp [g9z,hr,hn]
   rw [e0];clear e0 hr;go_enter Tryz.func277,Tryz.ntmps277
   go_wp2_with fail
   refine cW.mono ?_;rintro e w1 ⟨hg,rfl,hv⟩;have HG:=hid hg;have cT:=h2p rb n v w1 hv hn;clear hg hv cW hn;go_wp2_with fail
   refine cT.mono ?_;rintro e w2 ⟨A,c,rfl,hb,hr,hg⟩;have HG2:=hid (HG.out.trans hg);have HR:=hid hr;have hcv:=h8j c hb.len hb.row;clear hb hr hg cT;go_wp2_with fail
   go_ret
   exact ⟨HG2.out,rfl,HR.out⟩
  ·have e0:g9z u=none:=by simp [g9z,hr];omega
   rw [e0];clear e0 hr;go_enter Tryz.func277,Tryz.ntmps277
   go_wp2_with fail
   refine cW.mono ?_;rintro e w1 ⟨hg,rfl,hv⟩;have HG:=hid hg;have cT:=h9q rb n v w1 hv (by omega);clear hg hv cW hn;go_wp2_with fail
   refine cT.mono ?_;rintro e w2 ⟨rfl,hg⟩;exact ⟨rfl,HG.out.trans hg,rfl⟩
end Go.Proofs.YtglejnkoojpelaaGreat.Page

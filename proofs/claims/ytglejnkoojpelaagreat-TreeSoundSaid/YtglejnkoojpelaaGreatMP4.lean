import Derived.Test.YtglejnkoojpelaaGreatMP3
set_option maxRecDepth 100000
set_option maxHeartbeats 32000000
namespace Go.Proofs.YtglejnkoojpelaaGreat.Page
open Go.RowKit Gen
open Lib (hid)
structure New (p:Pg) (a:Lay) (n:Nat):Prop where
 n1:∀ x,a.A1=some x->n<=x.block
 n2:∀ x,a.A2=some x->n<=x.block
 n3:∀ x,a.A3=some x->n<=x.block
 n4:∀ x,a.A4=some x->n<=x.block
 n5:a.A4=none->a.c4=0
 k1:p.pairs.length<=a.c1
 k2:p.keys.length<=a.c2
 k3:p.kids.length<=a.c3
 k4:p.pages.length<=a.c4
 z1:a.A1=none->a.c1=0
 z2:a.A2=none->a.c2=0
 z3:a.A3=none->a.c3=0
def h3w (r:Option (Pg×Bs)) (rb:Nat) (w:World) (e:Ending) (w':World):Prop :=
 w.grownBy w' (some rb)/\match r with
 | none=>e=h8c
 | some (p,u)=>∃ a,e=.returned (pgV p a)/\g0c w' p a/\PgOk p/\Rd w' rb u/\New p a w.heap.size
theorem At.grown {w w':World} {b rb:Nat} {C:Array Value} (h:At w b C) (g:w.grownBy w' (some rb)) (hne:b≠rb):At w' b C :=
 ⟨Nat.lt_of_lt_of_le h.1 g.size,fun j=>(World.frozen?_of_block (a:=⟨b,j,none⟩) (g.block b h.1 (by simpa using hne))).trans (h.2.1 j),fun j v hv=>(World.cell?_of_block (a:=⟨b,j,none⟩) (g.block b h.1 (by simpa using hne))).trans (h.2.2 j v hv)⟩
theorem Rd.below {w w':World} {rb:Nat} {u:Bs} (h:Rd w rb u) (hb:Below w.heap.size w w'):Rd w' rb u:=by
 have hlt:=h.lt;obtain ⟨A,n,c,h1,h2,h3,h4⟩:=h;exact ⟨A,n,c,(hb.cell (p:=⟨rb,0,none⟩) hlt).trans h1,(hb.frozen (p:=⟨rb,0,none⟩) hlt).trans h2,h3.below hb,h4⟩
theorem Rd.set_other {w:World} {rb b o:Nat} {u:Bs} {v:Value} (h:Rd w rb u) (hb:rb<b):Rd (w.setCell ⟨b,o,none⟩ v) rb u:=by
 obtain ⟨A,n,c,h1,h2,h3,h4⟩:=h;exact ⟨A,n,c,by rw [World.cell?_setCell_other _ _ _ _ (by intro h;injection h;omega)];exact h1,by rw [World.frozen?_setCell];exact h2,h3.grown (g0r _ _ _ _) (fun hne a e=>by have:=h4 a e hne;omega),h4⟩
theorem g1i {w w':World} {rb b o:Nat} {v:Value} (h:w.grownBy w' (some rb)) (hb:w.heap.size<=b):w.grownBy (w'.setCell ⟨b,o,none⟩ v) (some rb) :=
 ⟨h.os,h.tape,h.output,by simpa using h.size,fun k hk hne=>(Below.heap_setCell _ _ _ _ (by show k≠b;omega)).trans (h.block k hk hne)⟩
theorem g2w {w w':World} {rb:Nat} (h:w.grownBy w' (some rb)) (o:Obj):w.grownBy (w'.alloc o) (some rb):=h.trans (World.grownBy_alloc _ _ _)
theorem g0q {r:Option (Pg×Bs)} {rb:Nat} {w w':World} (hr:r=none) (g:w.grownBy w' (some rb)):h3w r rb w h8c w':=by
 subst hr;exact ⟨g,rfl⟩
theorem g3o {r:Option (Pg×Bs)} {rb:Nat} {w w':World} {p:Pg} {u:Bs} (a:Lay) (hr:r=some (p,u)) (g:w.grownBy w' (some rb)) (h1:g0c w' p a) (h2:PgOk p) (h3:Rd w' rb u) (h4:New p a w.heap.size):h3w r rb w (.returned (pgV p a)) w':=by
 subst hr;exact ⟨g,a,rfl,h1,h2,h3,h4⟩
def g7u (u:Bs):Option (Pg×Bs) :=
 (rNum u).bind fun a=>(rNum a.2).bind fun b=>(g6k 4 b.2).bind fun c=>(rNum c.2).bind fun d=>(rNum d.2).map fun e =>
   ({kind:=4,root:=a.1,depth:=b.1,count:=(c.1:Int),high:=d.1,next:=e.1},e.2)
theorem g3l {u v:Bs} {x:Int} (h:rNum u=some (x,v)):0<=x/\x<65536:=by
 unfold rNum at h;rcases hr:g6k 2 u with _ | ⟨n,u2⟩
 ·rw [hr] at h;cases h
 ·rw [hr] at h;have:=(h4f hr (by omega)).1;simp at h;omega
abbrev pC (k:Int):Array Value:=pgC {kind:=k} {}
theorem h3p (w:World) (k:Int):At ((w.alloc (.cells (pC 0) 103)).alloc (.cells (pC k) 103)) (w.heap.size+1) (pC k)/\At ((w.alloc (.cells (pC 0) 103)).alloc (.cells (pC k) 103)) w.heap.size (pC 0):=by
 constructor
 ·exact At.of_block (by
   have:=heap_alloc_last (w.alloc (.cells (pC 0) 103)) (.cells (pC k) 103);rw [show (w.alloc (.cells (pC 0) 103)).heap.size=w.heap.size+1 by simp] at this;exact this)
 ·exact (At.of_block (heap_alloc_last w _)).below ((Below.refl _ _).alloc (Nat.le_refl _) _) (by simp)
def g1o (w:World) (b:Nat) (v0 v1 v2 v3 v4 v5 v6 v7 v8 v9 v10:Value):World:=(((((((((((w.setCell ⟨b,0,none⟩ v0).setCell ⟨b,1,none⟩ v1).setCell ⟨b,2,none⟩ v2).setCell ⟨b,3,none⟩ v3).setCell ⟨b,4,none⟩ v4).setCell ⟨b,5,none⟩ v5).setCell ⟨b,6,none⟩ v6).setCell ⟨b,7,none⟩ v7).setCell ⟨b,8,none⟩ v8).setCell ⟨b,9,none⟩ v9).setCell ⟨b,10,none⟩ v10)
theorem g2y {w:World} {b:Nat} (h:At w b (pC 0)) (v0 v1 v2 v3 v4 v5 v6 v7 v8 v9 v10:Value):At (g1o w b v0 v1 v2 v3 v4 v5 v6 v7 v8 v9 v10) b #[v0,v1,v2,v3,v4,v5,v6,v7,v8,v9,v10]:=by
 have h:At w b #[.int .i64 0,.slice none 0 0,.slice none 0 0,.slice none 0 0,.slice none 0 0,.int .i64 0,.int .u64 0,.int .i64 0,.int .i64 0,.int .i64 0,.int .i64 0]:=h;have h0:At (w.setCell ⟨b,0,none⟩ v0) b #[v0,.slice none 0 0,.slice none 0 0,.slice none 0 0,.slice none 0 0,.int .i64 0,.int .u64 0,.int .i64 0,.int .i64 0,.int .i64 0,.int .i64 0]:=by
  have e:=h.set 0 v0 (by simp);rw [show (#[.int .i64 0,.slice none 0 0,.slice none 0 0,.slice none 0 0,.slice none 0 0,.int .i64 0,.int .u64 0,.int .i64 0,.int .i64 0,.int .i64 0,.int .i64 0]:Array Value).setIfInBounds 0 v0=#[v0,.slice none 0 0,.slice none 0 0,.slice none 0 0,.slice none 0 0,.int .i64 0,.int .u64 0,.int .i64 0,.int .i64 0,.int .i64 0,.int .i64 0] from rfl] at e;exact e
 have h1:At ((w.setCell ⟨b,0,none⟩ v0).setCell ⟨b,1,none⟩ v1) b #[v0,v1,.slice none 0 0,.slice none 0 0,.slice none 0 0,.int .i64 0,.int .u64 0,.int .i64 0,.int .i64 0,.int .i64 0,.int .i64 0]:=by
  have e:=h0.set 1 v1 (by simp);rw [show (#[v0,.slice none 0 0,.slice none 0 0,.slice none 0 0,.slice none 0 0,.int .i64 0,.int .u64 0,.int .i64 0,.int .i64 0,.int .i64 0,.int .i64 0]:Array Value).setIfInBounds 1 v1=#[v0,v1,.slice none 0 0,.slice none 0 0,.slice none 0 0,.int .i64 0,.int .u64 0,.int .i64 0,.int .i64 0,.int .i64 0,.int .i64 0] from rfl] at e;exact e
 have h2:At (((w.setCell ⟨b,0,none⟩ v0).setCell ⟨b,1,none⟩ v1).setCell ⟨b,2,none⟩ v2) b #[v0,v1,v2,.slice none 0 0,.slice none 0 0,.int .i64 0,.int .u64 0,.int .i64 0,.int .i64 0,.int .i64 0,.int .i64 0]:=by
  have e:=h1.set 2 v2 (by simp);rw [show (#[v0,v1,.slice none 0 0,.slice none 0 0,.slice none 0 0,.int .i64 0,.int .u64 0,.int .i64 0,.int .i64 0,.int .i64 0,.int .i64 0]:Array Value).setIfInBounds 2 v2=#[v0,v1,v2,.slice none 0 0,.slice none 0 0,.int .i64 0,.int .u64 0,.int .i64 0,.int .i64 0,.int .i64 0,.int .i64 0] from rfl] at e;exact e
 have h3:At ((((w.setCell ⟨b,0,none⟩ v0).setCell ⟨b,1,none⟩ v1).setCell ⟨b,2,none⟩ v2).setCell ⟨b,3,none⟩ v3) b #[v0,v1,v2,v3,.slice none 0 0,.int .i64 0,.int .u64 0,.int .i64 0,.int .i64 0,.int .i64 0,.int .i64 0]:=by
  have e:=h2.set 3 v3 (by simp);rw [show (#[v0,v1,v2,.slice none 0 0,.slice none 0 0,.int .i64 0,.int .u64 0,.int .i64 0,.int .i64 0,.int .i64 0,.int .i64 0]:Array Value).setIfInBounds 3 v3=#[v0,v1,v2,v3,.slice none 0 0,.int .i64 0,.int .u64 0,.int .i64 0,.int .i64 0,.int .i64 0,.int .i64 0] from rfl] at e;exact e
 have h4:At (((((w.setCell ⟨b,0,none⟩ v0).setCell ⟨b,1,none⟩ v1).setCell ⟨b,2,none⟩ v2).setCell ⟨b,3,none⟩ v3).setCell ⟨b,4,none⟩ v4) b #[v0,v1,v2,v3,v4,.int .i64 0,.int .u64 0,.int .i64 0,.int .i64 0,.int .i64 0,.int .i64 0]:=by
  have e:=h3.set 4 v4 (by simp);rw [show (#[v0,v1,v2,v3,.slice none 0 0,.int .i64 0,.int .u64 0,.int .i64 0,.int .i64 0,.int .i64 0,.int .i64 0]:Array Value).setIfInBounds 4 v4=#[v0,v1,v2,v3,v4,.int .i64 0,.int .u64 0,.int .i64 0,.int .i64 0,.int .i64 0,.int .i64 0] from rfl] at e;exact e
 have h5:At ((((((w.setCell ⟨b,0,none⟩ v0).setCell ⟨b,1,none⟩ v1).setCell ⟨b,2,none⟩ v2).setCell ⟨b,3,none⟩ v3).setCell ⟨b,4,none⟩ v4).setCell ⟨b,5,none⟩ v5) b #[v0,v1,v2,v3,v4,v5,.int .u64 0,.int .i64 0,.int .i64 0,.int .i64 0,.int .i64 0]:=by
  have e:=h4.set 5 v5 (by simp);rw [show (#[v0,v1,v2,v3,v4,.int .i64 0,.int .u64 0,.int .i64 0,.int .i64 0,.int .i64 0,.int .i64 0]:Array Value).setIfInBounds 5 v5=#[v0,v1,v2,v3,v4,v5,.int .u64 0,.int .i64 0,.int .i64 0,.int .i64 0,.int .i64 0] from rfl] at e;exact e
 have h6:At (((((((w.setCell ⟨b,0,none⟩ v0).setCell ⟨b,1,none⟩ v1).setCell ⟨b,2,none⟩ v2).setCell ⟨b,3,none⟩ v3).setCell ⟨b,4,none⟩ v4).setCell ⟨b,5,none⟩ v5).setCell ⟨b,6,none⟩ v6) b #[v0,v1,v2,v3,v4,v5,v6,.int .i64 0,.int .i64 0,.int .i64 0,.int .i64 0]:=by
  have e:=h5.set 6 v6 (by simp);rw [show (#[v0,v1,v2,v3,v4,v5,.int .u64 0,.int .i64 0,.int .i64 0,.int .i64 0,.int .i64 0]:Array Value).setIfInBounds 6 v6=#[v0,v1,v2,v3,v4,v5,v6,.int .i64 0,.int .i64 0,.int .i64 0,.int .i64 0] from rfl] at e;exact e
 have h7:At ((((((((w.setCell ⟨b,0,none⟩ v0).setCell ⟨b,1,none⟩ v1).setCell ⟨b,2,none⟩ v2).setCell ⟨b,3,none⟩ v3).setCell ⟨b,4,none⟩ v4).setCell ⟨b,5,none⟩ v5).setCell ⟨b,6,none⟩ v6).setCell ⟨b,7,none⟩ v7) b #[v0,v1,v2,v3,v4,v5,v6,v7,.int .i64 0,.int .i64 0,.int .i64 0]:=by
  have e:=h6.set 7 v7 (by simp);rw [show (#[v0,v1,v2,v3,v4,v5,v6,.int .i64 0,.int .i64 0,.int .i64 0,.int .i64 0]:Array Value).setIfInBounds 7 v7=#[v0,v1,v2,v3,v4,v5,v6,v7,.int .i64 0,.int .i64 0,.int .i64 0] from rfl] at e;exact e
 have h8:At (((((((((w.setCell ⟨b,0,none⟩ v0).setCell ⟨b,1,none⟩ v1).setCell ⟨b,2,none⟩ v2).setCell ⟨b,3,none⟩ v3).setCell ⟨b,4,none⟩ v4).setCell ⟨b,5,none⟩ v5).setCell ⟨b,6,none⟩ v6).setCell ⟨b,7,none⟩ v7).setCell ⟨b,8,none⟩ v8) b #[v0,v1,v2,v3,v4,v5,v6,v7,v8,.int .i64 0,.int .i64 0]:=by
  have e:=h7.set 8 v8 (by simp);rw [show (#[v0,v1,v2,v3,v4,v5,v6,v7,.int .i64 0,.int .i64 0,.int .i64 0]:Array Value).setIfInBounds 8 v8=#[v0,v1,v2,v3,v4,v5,v6,v7,v8,.int .i64 0,.int .i64 0] from rfl] at e;exact e
 have h9:At ((((((((((w.setCell ⟨b,0,none⟩ v0).setCell ⟨b,1,none⟩ v1).setCell ⟨b,2,none⟩ v2).setCell ⟨b,3,none⟩ v3).setCell ⟨b,4,none⟩ v4).setCell ⟨b,5,none⟩ v5).setCell ⟨b,6,none⟩ v6).setCell ⟨b,7,none⟩ v7).setCell ⟨b,8,none⟩ v8).setCell ⟨b,9,none⟩ v9) b #[v0,v1,v2,v3,v4,v5,v6,v7,v8,v9,.int .i64 0]:=by
  have e:=h8.set 9 v9 (by simp);rw [show (#[v0,v1,v2,v3,v4,v5,v6,v7,v8,.int .i64 0,.int .i64 0]:Array Value).setIfInBounds 9 v9=#[v0,v1,v2,v3,v4,v5,v6,v7,v8,v9,.int .i64 0] from rfl] at e;exact e
 have h10:At (((((((((((w.setCell ⟨b,0,none⟩ v0).setCell ⟨b,1,none⟩ v1).setCell ⟨b,2,none⟩ v2).setCell ⟨b,3,none⟩ v3).setCell ⟨b,4,none⟩ v4).setCell ⟨b,5,none⟩ v5).setCell ⟨b,6,none⟩ v6).setCell ⟨b,7,none⟩ v7).setCell ⟨b,8,none⟩ v8).setCell ⟨b,9,none⟩ v9).setCell ⟨b,10,none⟩ v10) b #[v0,v1,v2,v3,v4,v5,v6,v7,v8,v9,v10]:=by
  have e:=h9.set 10 v10 (by simp);rw [show (#[v0,v1,v2,v3,v4,v5,v6,v7,v8,v9,.int .i64 0]:Array Value).setIfInBounds 10 v10=#[v0,v1,v2,v3,v4,v5,v6,v7,v8,v9,v10] from rfl] at e;exact e
 exact h10
theorem g3p {w0 w:World} {b rb:Nat} (h:w0.grownBy w (some rb)) (hb:w0.heap.size<=b) (v0 v1 v2 v3 v4 v5 v6 v7 v8 v9 v10:Value):w0.grownBy (g1o w b v0 v1 v2 v3 v4 v5 v6 v7 v8 v9 v10) (some rb):=(g1i (g1i (g1i (g1i (g1i (g1i (g1i (g1i (g1i (g1i (g1i h hb) hb) hb) hb) hb) hb) hb) hb) hb) hb) hb)
theorem g1f (w:World) (b:Nat) (v0 v1 v2 v3 v4 v5 v6 v7 v8 v9 v10:Value):w.grownBy (g1o w b v0 v1 v2 v3 v4 v5 v6 v7 v8 v9 v10) (some b):=(World.grownBy.refl w (some b)) |>.trans (g0r _ b 0 v0) |>.trans (g0r _ b 1 v1) |>.trans (g0r _ b 2 v2) |>.trans (g0r _ b 3 v3) |>.trans (g0r _ b 4 v4) |>.trans (g0r _ b 5 v5) |>.trans (g0r _ b 6 v6) |>.trans (g0r _ b 7 v7) |>.trans (g0r _ b 8 v8) |>.trans (g0r _ b 9 v9) |>.trans (g0r _ b 10 v10)
theorem g6n {w:World} {b rb:Nat} {u:Bs} (h:Rd w rb u) (hb:rb<b) (v0 v1 v2 v3 v4 v5 v6 v7 v8 v9 v10:Value):Rd (g1o w b v0 v1 v2 v3 v4 v5 v6 v7 v8 v9 v10) rb u:=h |>.set_other (o:=0) (v:=v0) hb |>.set_other (o:=1) (v:=v1) hb |>.set_other (o:=2) (v:=v2) hb |>.set_other (o:=3) (v:=v3) hb |>.set_other (o:=4) (v:=v4) hb |>.set_other (o:=5) (v:=v5) hb |>.set_other (o:=6) (v:=v6) hb |>.set_other (o:=7) (v:=v7) hb |>.set_other (o:=8) (v:=v8) hb |>.set_other (o:=9) (v:=v9) hb |>.set_other (o:=10) (v:=v10) hb
theorem g8q (w:World) (p:Pg) (a:Lay) (h1:p.pairs=[]) (h2:p.keys=[]) (h3:p.kids=[]) (h4:p.pages=[]):g0c w p a :=
 ⟨fun h=>absurd h1 h,fun h=>absurd h2 h,fun h=>absurd h3 h,fun h=>absurd h4 h⟩
theorem k3e (rb:Nat) (u:Bs) (w:World) (h:Rd w rb u):Calls Tryz.prog 243 #[ptr rb,.int .i64 4] w (Reads (g6k 4 u) (fun n:Nat=>.int .u64 (n:Int)) rb w):=h0y rb 4 u w h (by omega)
theorem k0f (rb:Nat) (u0:Bs) (w:World) (h:Rd w rb u0):Calls Tryz.prog 271 #[ptr rb] w (h3w (g7u u0) rb w):=by
 have hlt:=h.lt;obtain ⟨hat,har⟩:=h3p w 4;have b0:Below w.heap.size w ((w.alloc (.cells (pC 0) 103)).alloc (.cells (pC 4) 103)):=((Below.refl _ _).alloc (Nat.le_refl _) _).alloc (by simp) _;have R0:=hid (h.below b0);have G0:=hid (g2w (rb:=rb) (g2w (World.grownBy.refl w (some rb)) (.cells (pC 0) 103)) (.cells (pC 4) 103));have AP0:=hid hat;have AR0:=hid har;have NE:=hid (show w.heap.size+1≠rb/\w.heap.size≠rb by omega)
 have LT:=hid hlt;have cF:=g2u rb u0 _ (h.below b0);clear hat har b0 h hlt;unfold pC pgC at *;rcases hr0:rNum u0 with _ | ⟨x0,u1⟩
 ·rw [hr0] at cF;have Z0:=hid hr0;clear hr0;go_enter Tryz.func271,Tryz.ntmps271
  go_wp2_with fail
  refine cF.mono ?_;rintro e w1 ⟨hg,rfl⟩;exact ⟨rfl,g0q (by simp [g7u,Z0.out]) (G0.out.trans hg)⟩
 rw [hr0] at cF;have N0:=hid (g3l hr0);have E0:=hid hr0;clear hr0;go_enter Tryz.func271,Tryz.ntmps271
 go_wp2_with fail
 refine cF.mono ?_;rintro e w1 ⟨hg,rfl,hr⟩;have AP1a:=AP0.out.grown hg NE.out.1;have s1:=AP1a.2.2 7 _ rfl;have f1:=AP1a.2.1 7;have AP1:=hid (AP1a.set 7 (.int .i64 x0) (by simp));have AR1:=hid ((AR0.out.grown hg NE.out.2).set_other (b':=w.heap.size+1) (i:=7) (v:=.int .i64 x0) (by omega));have R1:=hid (hr.set_other (b:=w.heap.size+1) (o:=7) (v:=.int .i64 x0) (by have:=LT.out;omega));have G1:=hid (g1i (b:=w.heap.size+1) (o:=7) (v:=.int .i64 x0) (G0.out.trans hg) (by omega))
 clear hg hr AP1a cF;have cF:=g2u rb u1 _ R1.out;rcases hr1:rNum u1 with _ | ⟨x1,u2⟩
 ·rw [hr1] at cF;have Z1:=hid hr1;clear hr1;go_wp2_with fail
  refine cF.mono ?_;rintro e w2 ⟨hg,rfl⟩;exact ⟨rfl,g0q (by simp [g7u,E0.out,Z1.out]) (G1.out.trans hg)⟩
 rw [hr1] at cF;have N1:=hid (g3l hr1);have E1:=hid hr1;clear hr1;go_wp2_with fail
 refine cF.mono ?_;rintro e w2 ⟨hg,rfl,hr⟩;have AP2a:=AP1.out.grown hg NE.out.1;have s2:=AP2a.2.2 8 _ rfl;have f2:=AP2a.2.1 8;have AP2:=hid (AP2a.set 8 (.int .i64 x1) (by simp));have AR2:=hid ((AR1.out.grown hg NE.out.2).set_other (b':=w.heap.size+1) (i:=8) (v:=.int .i64 x1) (by omega));have R2:=hid (hr.set_other (b:=w.heap.size+1) (o:=8) (v:=.int .i64 x1) (by have:=LT.out;omega));have G2:=hid (g1i (b:=w.heap.size+1) (o:=8) (v:=.int .i64 x1) (G1.out.trans hg) (by omega))
 clear hg hr AP2a cF;have cF:=k3e rb u2 _ R2.out;rcases hr2:g6k 4 u2 with _ | ⟨x2,u3⟩
 ·rw [hr2] at cF;have Z2:=hid hr2;clear hr2;go_wp2_with fail
  refine cF.mono ?_;rintro e w3 ⟨hg,rfl⟩;exact ⟨rfl,g0q (by simp [g7u,E0.out,E1.out,Z2.out]) (G2.out.trans hg)⟩
 rw [hr2] at cF;have N2:=hid ((h4f hr2 (by omega)).1);have E2:=hid hr2;clear hr2;go_wp2_with fail
 refine cF.mono ?_;rintro e w3 ⟨hg,rfl,hr⟩;have AP3a:=AP2.out.grown hg NE.out.1;have s3:=AP3a.2.2 9 _ rfl;have f3:=AP3a.2.1 9;have AP3:=hid (AP3a.set 9 (.int .i64 (x2:Int)) (by simp));have AR3:=hid ((AR2.out.grown hg NE.out.2).set_other (b':=w.heap.size+1) (i:=9) (v:=.int .i64 (x2:Int)) (by omega));have R3:=hid (hr.set_other (b:=w.heap.size+1) (o:=9) (v:=.int .i64 (x2:Int)) (by have:=LT.out;omega))
 have G3:=hid (g1i (b:=w.heap.size+1) (o:=9) (v:=.int .i64 (x2:Int)) (G2.out.trans hg) (by omega));clear hg hr AP3a cF;have n2:=N2.out;have hw2:IntKind.i64.wrap (x2:Int)=(x2:Int):=by rw [IntKind.wrap_i64];omega
 clear n2;have cF:=g2u rb u3 _ R3.out;rcases hr3:rNum u3 with _ | ⟨x3,u4⟩
 ·rw [hr3] at cF;have Z3:=hid hr3;clear hr3;go_wp2_with fail
  refine cF.mono ?_;rintro e w4 ⟨hg,rfl⟩;exact ⟨rfl,g0q (by simp [g7u,E0.out,E1.out,E2.out,Z3.out]) (G3.out.trans hg)⟩
 rw [hr3] at cF;have N3:=hid (g3l hr3);have E3:=hid hr3;clear hr3;go_wp2_with fail
 refine cF.mono ?_;rintro e w4 ⟨hg,rfl,hr⟩;have AP4a:=AP3.out.grown hg NE.out.1;have s4:=AP4a.2.2 10 _ rfl;have f4:=AP4a.2.1 10;have AP4:=hid (AP4a.set 10 (.int .i64 x3) (by simp));have AR4:=hid ((AR3.out.grown hg NE.out.2).set_other (b':=w.heap.size+1) (i:=10) (v:=.int .i64 x3) (by omega));have R4:=hid (hr.set_other (b:=w.heap.size+1) (o:=10) (v:=.int .i64 x3) (by have:=LT.out;omega));have G4:=hid (g1i (b:=w.heap.size+1) (o:=10) (v:=.int .i64 x3) (G3.out.trans hg) (by omega))
 clear hg hr AP4a cF;have cF:=g2u rb u4 _ R4.out;rcases hr4:rNum u4 with _ | ⟨x4,u5⟩
 ·rw [hr4] at cF;have Z4:=hid hr4;clear hr4;go_wp2_with fail
  refine cF.mono ?_;rintro e w5 ⟨hg,rfl⟩;exact ⟨rfl,g0q (by simp [g7u,E0.out,E1.out,E2.out,E3.out,Z4.out]) (G4.out.trans hg)⟩
 rw [hr4] at cF;have N4:=hid (g3l hr4);have E4:=hid hr4;clear hr4;go_wp2_with fail
 refine cF.mono ?_;rintro e w5 ⟨hg,rfl,hr⟩;have AP5a:=AP4.out.grown hg NE.out.1;have s5:=AP5a.2.2 5 _ rfl;have f5:=AP5a.2.1 5;have AP5:=hid (AP5a.set 5 (.int .i64 x4) (by simp));have AR5:=hid ((AR4.out.grown hg NE.out.2).set_other (b':=w.heap.size+1) (i:=5) (v:=.int .i64 x4) (by omega));have R5:=hid (hr.set_other (b:=w.heap.size+1) (o:=5) (v:=.int .i64 x4) (by have:=LT.out;omega));have G5:=hid (g1i (b:=w.heap.size+1) (o:=5) (v:=.int .i64 x4) (G4.out.trans hg) (by omega))
 clear hg hr AP5a cF;have c0:(w5.setCell ⟨w.heap.size+1,5,none⟩ (.int .i64 x4)).cell? ⟨w.heap.size+1,0,none⟩=some (.int .i64 4):=AP5.out.2.2 0 _ rfl;have c1:(w5.setCell ⟨w.heap.size+1,5,none⟩ (.int .i64 x4)).cell? ⟨w.heap.size+1,1,none⟩=some (.slice none 0 0):=AP5.out.2.2 1 _ rfl;have c2:(w5.setCell ⟨w.heap.size+1,5,none⟩ (.int .i64 x4)).cell? ⟨w.heap.size+1,2,none⟩=some (.slice none 0 0):=AP5.out.2.2 2 _ rfl
 have c3:(w5.setCell ⟨w.heap.size+1,5,none⟩ (.int .i64 x4)).cell? ⟨w.heap.size+1,3,none⟩=some (.slice none 0 0):=AP5.out.2.2 3 _ rfl;have c4:(w5.setCell ⟨w.heap.size+1,5,none⟩ (.int .i64 x4)).cell? ⟨w.heap.size+1,4,none⟩=some (.slice none 0 0):=AP5.out.2.2 4 _ rfl;have c5:(w5.setCell ⟨w.heap.size+1,5,none⟩ (.int .i64 x4)).cell? ⟨w.heap.size+1,5,none⟩=some (.int .i64 x4):=AP5.out.2.2 5 _ rfl;have c6:(w5.setCell ⟨w.heap.size+1,5,none⟩ (.int .i64 x4)).cell? ⟨w.heap.size+1,6,none⟩=some (.int .u64 0):=AP5.out.2.2 6 _ rfl
 have c7:(w5.setCell ⟨w.heap.size+1,5,none⟩ (.int .i64 x4)).cell? ⟨w.heap.size+1,7,none⟩=some (.int .i64 x0):=AP5.out.2.2 7 _ rfl;have c8:(w5.setCell ⟨w.heap.size+1,5,none⟩ (.int .i64 x4)).cell? ⟨w.heap.size+1,8,none⟩=some (.int .i64 x1):=AP5.out.2.2 8 _ rfl;have c9:(w5.setCell ⟨w.heap.size+1,5,none⟩ (.int .i64 x4)).cell? ⟨w.heap.size+1,9,none⟩=some (.int .i64 (x2:Int)):=AP5.out.2.2 9 _ rfl;have c10:(w5.setCell ⟨w.heap.size+1,5,none⟩ (.int .i64 x4)).cell? ⟨w.heap.size+1,10,none⟩=some (.int .i64 x3):=AP5.out.2.2 10 _ rfl
 have r0:(w5.setCell ⟨w.heap.size+1,5,none⟩ (.int .i64 x4)).cell? ⟨w.heap.size,0,none⟩=some (.int .i64 0):=AR5.out.2.2 0 _ rfl;have r1:(w5.setCell ⟨w.heap.size+1,5,none⟩ (.int .i64 x4)).cell? ⟨w.heap.size,1,none⟩=some (.slice none 0 0):=AR5.out.2.2 1 _ rfl;have r2:(w5.setCell ⟨w.heap.size+1,5,none⟩ (.int .i64 x4)).cell? ⟨w.heap.size,2,none⟩=some (.slice none 0 0):=AR5.out.2.2 2 _ rfl;have r3:(w5.setCell ⟨w.heap.size+1,5,none⟩ (.int .i64 x4)).cell? ⟨w.heap.size,3,none⟩=some (.slice none 0 0):=AR5.out.2.2 3 _ rfl
 have r4:(w5.setCell ⟨w.heap.size+1,5,none⟩ (.int .i64 x4)).cell? ⟨w.heap.size,4,none⟩=some (.slice none 0 0):=AR5.out.2.2 4 _ rfl;have r5:(w5.setCell ⟨w.heap.size+1,5,none⟩ (.int .i64 x4)).cell? ⟨w.heap.size,5,none⟩=some (.int .i64 0):=AR5.out.2.2 5 _ rfl;have r6:(w5.setCell ⟨w.heap.size+1,5,none⟩ (.int .i64 x4)).cell? ⟨w.heap.size,6,none⟩=some (.int .u64 0):=AR5.out.2.2 6 _ rfl;have r7:(w5.setCell ⟨w.heap.size+1,5,none⟩ (.int .i64 x4)).cell? ⟨w.heap.size,7,none⟩=some (.int .i64 0):=AR5.out.2.2 7 _ rfl
 have r8:(w5.setCell ⟨w.heap.size+1,5,none⟩ (.int .i64 x4)).cell? ⟨w.heap.size,8,none⟩=some (.int .i64 0):=AR5.out.2.2 8 _ rfl;have r9:(w5.setCell ⟨w.heap.size+1,5,none⟩ (.int .i64 x4)).cell? ⟨w.heap.size,9,none⟩=some (.int .i64 0):=AR5.out.2.2 9 _ rfl;have r10:(w5.setCell ⟨w.heap.size+1,5,none⟩ (.int .i64 x4)).cell? ⟨w.heap.size,10,none⟩=some (.int .i64 0):=AR5.out.2.2 10 _ rfl;have fz:∀ j,(w5.setCell ⟨w.heap.size+1,5,none⟩ (.int .i64 x4)).frozen? ⟨w.heap.size,j,none⟩=false:=AR5.out.2.1
 have ARZ:=hid AR5.out;clear AP0 AP1 AP2 AP3 AP4 AP5 AR0 AR1 AR2 AR3 AR4 AR5 R0 R1 R2 R3 R4 G0 G1 G2 G3 G4 s1 s2 s3 s4 f1 f2 f3 f4;go_wp2_with fail
 have AW:=g2y ARZ.out (.int .i64 4) (.slice none 0 0) (.slice none 0 0) (.slice none 0 0) (.slice none 0 0) (.int .i64 x4) (.int .u64 0) (.int .i64 x0) (.int .i64 x1) (.int .i64 (x2:Int)) (.int .i64 x3);have GW:=g3p G5.out (b:=w.heap.size) (Nat.le_refl _) (.int .i64 4) (.slice none 0 0) (.slice none 0 0) (.slice none 0 0) (.slice none 0 0) (.int .i64 x4) (.int .u64 0) (.int .i64 x0) (.int .i64 x1) (.int .i64 (x2:Int)) (.int .i64 x3)
 have RW:=g6n R5.out LT.out (.int .i64 4) (.slice none 0 0) (.slice none 0 0) (.slice none 0 0) (.slice none 0 0) (.int .i64 x4) (.int .u64 0) (.int .i64 x0) (.int .i64 x1) (.int .i64 (x2:Int)) (.int .i64 x3);change bodyPost _ _ _ _ _ (g1o (w5.setCell ⟨w.heap.size+1,5,none⟩ (.int .i64 x4)) w.heap.size (.int .i64 4) (.slice none 0 0) (.slice none 0 0) (.slice none 0 0) (.slice none 0 0) (.int .i64 x4) (.int .u64 0) (.int .i64 x0) (.int .i64 x1) (.int .i64 (x2:Int)) (.int .i64 x3))
 generalize g1o (w5.setCell ⟨w.heap.size+1,5,none⟩ (.int .i64 x4)) w.heap.size (.int .i64 4) (.slice none 0 0) (.slice none 0 0) (.slice none 0 0) (.slice none 0 0) (.int .i64 x4) (.int .u64 0) (.int .i64 x0) (.int .i64 x1) (.int .i64 (x2:Int)) (.int .i64 x3)=W at *;clear c0 r0 c1 r1 c2 r2 c3 r3 c4 r4 c5 r5 c6 r6 c7 r7 c8 r8 c9 r9 c10 r10 fz;have c0:=AW.2.2 0 _ rfl;have c1:=AW.2.2 1 _ rfl;have c2:=AW.2.2 2 _ rfl
 have c3:=AW.2.2 3 _ rfl;have c4:=AW.2.2 4 _ rfl;have c5:=AW.2.2 5 _ rfl;have c6:=AW.2.2 6 _ rfl;have c7:=AW.2.2 7 _ rfl;have c8:=AW.2.2 8 _ rfl;have c9:=AW.2.2 9 _ rfl;have c10:=AW.2.2 10 _ rfl;refine bodyPost_ret (v:=.agg #[.int .i64 4,.slice none 0 0,.slice none 0 0,.slice none 0 0,.slice none 0 0,.int .i64 x4,.int .u64 0,.int .i64 x0,.int .i64 x1,.int .i64 (x2:Int),.int .i64 x3]) (by simp [results,Tryz.results271,go_sem, *]) rfl ?_
 have n0:=N0.out;have n1:=N1.out;have n2:=N2.out;have n3:=N3.out;have n4:=N4.out;refine g3o (p:={kind:=4,root:=x0,depth:=x1,count:=(x2:Int),high:=x3,next:=x4}) (u:=u5) {} (by simp [g7u,E0.out,E1.out,E2.out,E3.out,E4.out]) GW (g8q _ _ _ rfl rfl rfl rfl) (by refine ⟨?_,?_,?_,?_,?_,?_,?_,?_,?_,?_,?_⟩ <;> simp [I64] <;> omega) RW ⟨(fun _ h=>by cases h),(fun _ h=>by cases h),(fun _ h=>by cases h),(fun _ h=>by cases h),(fun _=>rfl),(by simp),(by simp),(by simp),(by simp),(fun _=>rfl),(fun _=>rfl),(fun _=>rfl)⟩
abbrev flat (l:List (Bs×Bs)):List Value:=l.flatMap fun x=>[strV x.1,strV x.2]
def OwnP (w:World) (B:Nat) (v:Value) (l:List (Bs×Bs)):Prop:=w.ownsRow B 49 2 v l.length (flat l)
theorem flat_get:∀ (l:List (Bs×Bs)) (j:Nat) (h:j<l.length),(flat l)[j*2]?=some (strV l[j].1)/\(flat l)[j*2+1]?=some (strV l[j].2)
 | [],_,h=>by simp at h
 | _ :: _,0,_=>⟨rfl,rfl⟩
 | _ :: l,j+1,h=>by
  have:=flat_get l j (by simpa using h);rw [show (j+1)*2=j*2+2 by omega];exact this
theorem g8e:∀ (l:List (Bs×Bs)),(flat l).length=l.length*2
 | []=>rfl
 | x :: l=>by
  have:=g8e l;simp only [flat,List.flatMap_cons,List.length_append,List.length_cons,List.length_nil] at this ⊢;omega
theorem OwnP.row {w:World} {B:Nat} {v:Value} {l:List (Bs×Bs)} (h:OwnP w B v l):∃ A c,v=.slice A l.length c/\PRow w A l/\∀ a,A=some a->B<=a.block:=by
 have h0:=h;obtain ⟨hl,⟨rfl,hn⟩ | ⟨g,cap,cur,rfl,hg,hh,hnc,hcm,_,ht⟩⟩:=h
 ·exact ⟨none,0,by rw [hn],(fun hne=>absurd (List.eq_nil_of_length_eq_zero hn) hne),fun a h=>by cases h⟩
 ·refine ⟨some ⟨g,0,none⟩,cap,rfl,fun _=>⟨g,0,rfl,?_,fun j hj=>?_⟩,fun a h=>by cases h;exact hg⟩
  ·exact (Array.getElem?_eq_some_iff.1 hh).1
  ·have hget:∀ i u,(flat l)[i]?=some u->w.cell? ⟨g,i,none⟩=some u:=fun i u hu=>by
    rw [cell_of_row w g i cur _ _ hh,<- Array.getElem?_toList];have:i<(flat l).length:=(List.getElem?_eq_some_iff.1 hu).1;rw [g8e] at this;rw [<- hu,<- ht,List.getElem?_take_of_lt this]
   obtain ⟨h1,h2⟩:=flat_get l j hj;exact ⟨by rw [Nat.zero_add];exact hget _ _ h1,by rw [Nat.zero_add];exact hget _ _ h2⟩
theorem OwnP.nil (w:World) (B:Nat):OwnP w B (.slice none 0 0) []:=⟨rfl,.inl ⟨rfl,rfl⟩⟩
theorem OwnP.grown {w w':World} {B rb:Nat} {v:Value} {l:List (Bs×Bs)} (h:OwnP w B v l) (g:w.grownBy w' (some rb)) (hb:rb<B):OwnP w' B v l:=by
 obtain ⟨hl,h | ⟨k,cap,cur,hv,hg,hh,h4,h5,h6,h7⟩⟩:=h
 ·exact ⟨hl,.inl h⟩
 ·exact ⟨hl,.inr ⟨k,cap,cur,hv,hg,by rw [g.block k (Array.getElem?_eq_some_iff.1 hh).1 (by simp;omega)];exact hh,h4,h5,h6,h7⟩⟩
theorem g3y {w w':World} {e:TypeId} {α:Type} {enc:α->Value} {B rb:Nat} {v:Value} {l:List α} (h:OwnG w e enc B v l) (g:w.grownBy w' (some rb)) (hb:rb<B):OwnG w' e enc B v l:=by
 obtain ⟨hl,h | ⟨k,cap,cur,hv,hg,hh,h4,h5,h6,h7⟩⟩:=h
 ·exact ⟨hl,.inl h⟩
 ·exact ⟨hl,.inr ⟨k,cap,cur,hv,hg,by rw [g.block k (Array.getElem?_eq_some_iff.1 hh).1 (by simp;omega)];exact hh,h4,h5,h6,h7⟩⟩
theorem h1k:(Tryz.prog.info? 49).map (fun i=>(i.zero,i.size,i.bytes))=some (some (.agg #[.string ⟨#[]⟩,.string ⟨#[]⟩]),2,32):=by kernel_rfl
theorem g1w {t:TypeId} {z:Value} {n b:Nat} (h:(Tryz.prog.info? t).map (fun i=>(i.zero,i.size,i.bytes))=some (some z,n,b)):∃ i,Tryz.prog.info? t=some i/\i.zero=some z/\i.size=n/\i.bytes=b:=by
 obtain ⟨i,hi,hzz⟩:=Option.map_eq_some_iff.1 h;simp only [Prod.mk.injEq] at hzz;exact ⟨i,hi,hzz.1,hzz.2.1,hzz.2.2⟩
theorem j4a (W:World) (B:Nat) (v:Value) (l:List (Bs×Bs)) (h:OwnP W B v l) (x y:Bs) (X Y:ByteArray) (hX:strB x=X) (hY:strB y=Y) (hn:l.length<=1000000) (hB:B<=W.heap.size) :
 ∃ v' W',(Builtin.append_ #[27,27] 27 #[v,.slice (some ⟨W.heap.size,0,none⟩) 1 1]).run Tryz.prog (W.alloc (.cells #[.string X,.string Y] 49))=.ok v' W'/\OwnP W' B v' (l++[(x,y)])/\W.grownBy W' v.ownBlock/\(∀ k,v.ownBlock=some k->B<=k):=by
 obtain ⟨i0,hi,hz0,hz1,hz2⟩:=g1w h1k;subst hX hY;have h0:=h;have hnew:=heap_alloc_last W (.cells #[strV x,strV y] 49);have hg0:W.grownBy (W.alloc (.cells #[strV x,strV y] 49)) v.ownBlock:=World.grownBy_alloc W _ _;obtain ⟨v',W',h1,h2,h3,_,_⟩:=run_append_own_at (P:=Tryz.prog) (W.alloc (.cells #[strV x,strV y] 49)) B 27 27 49 i0 _ 2 32 Tryz.underlying27 hi hz0 hz1 hz2 rfl (by decide) v _ _ (World.ownsRow.alloc h _) ⟨W.heap.size,0,none⟩ 1 1
  [strV x,strV y] rfl (fun j u hu=>by
   have e:(⟨W.heap.size,0,none⟩:Addr).add j=⟨W.heap.size,j,none⟩:=by unfold Addr.add;split <;> simp_all
   rw [e,cell_of_row _ _ j _ _ _ hnew]
   simpa using hu) (fun u hu=>by
    simp only [List.mem_cons,List.not_mem_nil,or_false] at hu;rcases hu with rfl | rfl <;> rfl) (by simp only [maxLen];omega) (by omega) (by simp;omega)
 refine ⟨v',W',h1,?_,hg0.trans h3,fun k hk=>(World.ownsRow.lt h0 k hk).1⟩;unfold OwnP;rw [List.length_append]
 simpa [flat] using h2
theorem g2p:Elem Tryz.prog 66 3 numV :=
 ⟨Tryz.underlying66,⟨_,_,8,rfl,rfl,rfl,rfl,rfl,by omega⟩,fun _=>rfl⟩
theorem h0f {w W W':World} {rb:Nat} {row:Option Nat} (h:w.grownBy W (some rb)) (k:W.grownBy W' row) (hr:∀ j,row=some j->w.heap.size<=j):w.grownBy W' (some rb):=⟨k.os.trans h.os,k.tape.trans h.tape,k.output.trans h.output,Nat.le_trans h.size k.size,fun j hj hne=>(k.block j (Nat.lt_of_lt_of_le hj h.size) (fun e=>by have:=hr j e.symm;omega)).trans (h.block j hj hne)⟩
theorem At.grownRow {w w':World} {b:Nat} {C:Array Value} {row:Option Nat} (h:At w b C) (g:w.grownBy w' row) (hne:some b≠row):At w' b C :=
 ⟨Nat.lt_of_lt_of_le h.1 g.size,fun j=>(World.frozen?_of_block (a:=⟨b,j,none⟩) (g.block b h.1 hne)).trans (h.2.1 j),fun j v hv=>(World.cell?_of_block (a:=⟨b,j,none⟩) (g.block b h.1 hne)).trans (h.2.2 j v hv)⟩
theorem Rd.grownRow {w w':World} {rb:Nat} {u:Bs} {row:Option Nat} (h:Rd w rb u) (g:w.grownBy w' row) (hr:∀ k,row=some k->rb<k):Rd w' rb u:=by
 have hlt:=h.lt;have hne:∀ k,k<=rb->some k≠row:=fun k hk e=>by have:=hr k e.symm;omega
 obtain ⟨A,n,c,h1,h2,h3,h4⟩:=h;exact ⟨A,n,c,(World.cell?_of_block (a:=⟨rb,0,none⟩) (g.block rb hlt (hne _ (Nat.le_refl _)))).trans h1,(World.frozen?_of_block (a:=⟨rb,0,none⟩) (g.block rb hlt (hne _ (Nat.le_refl _)))).trans h2,
  ⟨h3.len,h3.cap,h3.max,h3.nil,g3z h3.row g (fun hn a e=>hne _ (Nat.le_of_lt (h4 a e hn)))⟩,h4⟩
theorem h2e {w:World} {B:Nat} {v:Value} {l:List (Bs×Bs)} (h:OwnP w B v l):∃ A c,v=.slice A l.length c/\PRow w A l/\(∀ a,A=some a->B<=a.block)/\(A=none->c=0)/\l.length<=c:=by
 obtain ⟨A,c,rfl,h1,h2⟩:=h.row;obtain ⟨hl,⟨e,hn⟩ | ⟨g,cap,cur,e,hg,hh,hnc,hcm,_,ht⟩⟩:=h
 ·injection e with e1 e2 e3
  exact ⟨A,c,rfl,h1,h2,(fun _=>e3),by omega⟩
 ·injection e with e1 e2 e3
  exact ⟨A,c,rfl,h1,h2,(fun hA=>by rw [e1] at hA;cases hA),by omega⟩
def g8n:Nat->Bs->Option (List (Bs×Bs)×Bs)
 | 0,u=>some ([],u)
 | k+1,u=>(g9z u).bind fun a=>(g9z a.2).bind fun b=>(g8n k b.2).map fun c=>((a.1,b.1) :: c.1,c.2)
def h3g (u:Bs):Option (Pg×Bs):=(rNum u).bind fun a=>(g8n a.1.toNat a.2).map fun b=>({kind:=1,pairs:=b.1},b.2)
def ahead {α:Type} (l:List α) (o:Option (List α×Bs)):Option (List α×Bs):=o.map fun c=>(l++c.1,c.2)
theorem h5n {α:Type} (o:Option (List α×Bs)):ahead [] o=o:=by
 rcases o with _ | ⟨a,b⟩ <;> rfl
theorem h2a {α:Type} (l:List α) (x:α) (o:Option (List α×Bs)):ahead l (o.map fun c=>(x :: c.1,c.2))=ahead (l++[x]) o:=by
 rcases o with _ | ⟨a,b⟩ <;> simp [ahead]
abbrev p2k (sv:Value):Array Value:=#[.int .i64 1,sv,.slice none 0 0,.slice none 0 0,.slice none 0 0,.int .i64 0,.int .u64 0,.int .i64 0,.int .i64 0,.int .i64 0,.int .i64 0]
structure j2m (w:World) (rb n:Nat) (R:Option (List (Bs×Bs)×Bs)) (k:Nat) (ps:List (Bs×Bs)) (v:Bs) (sv:Value) (wr:World):Prop where
 rd:Rd wr rb v
 at_:At wr (w.heap.size+1) (p2k sv)
 zero:At wr w.heap.size (pC 0)
 own:OwnP wr (w.heap.size+2) sv ps
 grown:w.grownBy wr (some rb)
 size:w.heap.size+2<=wr.heap.size
 left:ahead ps (g8n (n-k) v)=R
 len:ps.length=k
theorem j2m.text {w wr w1:World} {rb n:Nat} {R:Option (List (Bs×Bs)×Bs)} {k:Nat} {ps:List (Bs×Bs)} {v v1:Bs} {sv:Value} (h:j2m w rb n R k ps v sv wr) (hlt:rb<w.heap.size) (g:wr.grownBy w1 (some rb)) (r:Rd w1 rb v1) :
 Rd w1 rb v1/\At w1 (w.heap.size+1) (p2k sv)/\At w1 w.heap.size (pC 0)/\OwnP w1 (w.heap.size+2) sv ps/\w.grownBy w1 (some rb)/\w.heap.size+2<=w1.heap.size :=
 ⟨r,h.at_.grown g (by omega),h.zero.grown g (by omega),h.own.grown g (by omega),h.grown.trans g,Nat.le_trans h.size g.size⟩
theorem k4o {w w2:World} {rb n:Nat} {R:Option (List (Bs×Bs)×Bs)} {k:Nat} {ps:List (Bs×Bs)} {x y:Bs} {v2:Bs} {sv:Value} (hlt:rb<w.heap.size) (r:Rd w2 rb v2) (ha:At w2 (w.heap.size+1) (p2k sv)) (hz:At w2 w.heap.size (pC 0)) (ho:OwnP w2 (w.heap.size+2) sv ps) (hg:w.grownBy w2 (some rb)) (hs:w.heap.size+2<=w2.heap.size)
 (hR:ahead (ps++[(x,y)]) (g8n (n-(k+1)) v2)=R) (hl:ps.length=k) (hk:k<=100000) (X Y:ByteArray) (hX:strB x=X) (hY:strB y=Y) :
 ∃ v' W',(Builtin.append_ #[27,27] 27 #[sv,.slice (some ⟨w2.heap.size,0,none⟩) 1 1]).run Tryz.prog (w2.alloc (.cells #[.string X,.string Y] 49))=.ok v' W' /\
  W'.cell? ⟨w.heap.size+1,1,none⟩=some sv/\W'.frozen? ⟨w.heap.size+1,1,none⟩=false/\j2m w rb n R (k+1) (ps++[(x,y)]) v2 v' (W'.setCell ⟨w.heap.size+1,1,none⟩ v'):=by
 obtain ⟨v',W',hrun,ho',hg',hown⟩:=j4a w2 (w.heap.size+2) sv ps ho x y X Y hX hY (by omega) hs;have hne:∀ b,b<w.heap.size+2->some b≠sv.ownBlock:=fun b hb e=>by have:=hown b e.symm;omega
 have ha':=ha.grownRow hg' (hne _ (by omega));have hz':=hz.grownRow hg' (hne _ (by omega));have r':=r.grownRow hg' (fun k hk=>by have:=hown k hk;omega);have g2:w.grownBy W' (some rb):=h0f hg hg' (fun j hj=>by have:=hown j hj;omega);have ha2:=ha'.set 1 v' (by simp);exact ⟨v',W',hrun,ha'.2.2 1 _ rfl,ha'.2.1 1,⟨r'.set_other (by omega),ha2,hz'.set_other (by omega),OwnP.grown ho' (g0r _ _ _ _) (by omega),g1i g2 (by omega),by have:=hg'.size;simp;omega,hR,by rw [List.length_append,hl];rfl⟩⟩
theorem k5m (rb:Nat) (u0:Bs) (w:World) (h:Rd w rb u0):Calls Tryz.prog 268 #[ptr rb] w (h3w (h3g u0) rb w):=by
 have hlt:=h.lt;obtain ⟨hat,har⟩:=h3p w 1;have b0:Below w.heap.size w ((w.alloc (.cells (pC 0) 103)).alloc (.cells (pC 1) 103)):=((Below.refl _ _).alloc (Nat.le_refl _) _).alloc (by simp) _;have G0:=hid (g2w (rb:=rb) (g2w (World.grownBy.refl w (some rb)) (.cells (pC 0) 103)) (.cells (pC 1) 103));have SZ:=hid (show w.heap.size+2<=((w.alloc (.cells (pC 0) 103)).alloc (.cells (pC 1) 103)).heap.size by simp)
 have AP0:=hid hat;have AR0:=hid har;have LT:=hid hlt;have cF:=g2u rb u0 _ (h.below b0);clear hat har b0 h hlt;unfold pC pgC at *;rcases hr0:rNum u0 with _ | ⟨x0,u1⟩
 ·rw [hr0] at cF;have Z0:=hid hr0;clear hr0;go_enter Tryz.func268,Tryz.ntmps268
  go_wp2_with fail
  refine cF.mono ?_;rintro e w1 ⟨hg,rfl⟩;exact ⟨rfl,g0q (by simp [h3g,Z0.out]) (G0.out.trans hg)⟩
 rw [hr0] at cF;have hx:=g3l hr0;have E0:=hid hr0;clear hr0;obtain ⟨n,rfl⟩:=Int.eq_ofNat_of_zero_le hx.1;have hn:n<65536:=by omega
 obtain ⟨R,hR⟩:∃ R,g8n n u1=R:=⟨_,rfl⟩;have ER:Hid (h3g u0=R.map fun b=>({kind:=1,pairs:=b.1},b.2)):=hid (by simp [h3g,E0.out,hR]);have HR:=hid hR;clear hx hR E0;go_enter Tryz.func268,Tryz.ntmps268
 go_wp2_with fail
 refine cF.mono ?_;rintro e w1 ⟨hg,rfl,hr⟩;have ST:Hid (j2m w rb n R 0 [] u1 (.slice none 0 0) w1):=hid ⟨hr,AP0.out.grown hg (by have:=LT.out;omega),AR0.out.grown hg (by have:=LT.out;omega),OwnP.nil _ _,G0.out.trans hg,Nat.le_trans SZ.out hg.size,by rw [Nat.sub_zero,HR.out,h5n],rfl⟩;clear hg hr cF AP0 AR0 G0 SZ HR;go_wp2_with fail
 go_loopw [11] (fun i wr=>∃ (k:Nat) (ps:List (Bs×Bs)) (v:Bs) (sv:Value),i=.int .i64 (k:Int)/\k<=n/\j2m w rb n R k ps v sv wr) (fun i _=>n-(intOf i).toNat)
 case atStart=>exact ⟨0,[],u1,_,rfl,Nat.zero_le _,ST.out⟩
 case round =>
  obtain ⟨k,ps,v,sv,rfl,hk,hst⟩:=hrel
  by_cases hkn:k<n
  ·have HST:=hid hst;have cT:=h9u rb v wr hst.rd;rcases hr1:g9z v with _ | ⟨x,v1⟩
   ·rw [hr1] at cT;have EN:Hid (h3g u0=none):=hid (by
     have h:=hst.left;rw [show n-k=(n-k-1)+1 by omega] at h;rw [ER.out,<- h];simp [g8n,hr1,ahead])
    clear hr1 hst;go_wp2_with fail
    refine cT.mono ?_;rintro e w1 ⟨hg,rfl⟩;exact ⟨rfl,g0q EN.out (HST.out.grown.trans hg)⟩
   rw [hr1] at cT;have E1:=hid hr1;clear hst hr1;go_wp2_with fail
   refine cT.mono ?_;rintro e w2 ⟨hg,rfl,hr⟩;have P2:=hid (HST.out.text LT.out hg hr);have cU:=h9u rb v1 w2 hr;clear hg hr cT;rcases hr2:g9z v1 with _ | ⟨y,v2⟩
   ·rw [hr2] at cU;have EN:Hid (h3g u0=none):=hid (by
     have h:=HST.out.left;rw [show n-k=(n-k-1)+1 by omega] at h;rw [ER.out,<- h];simp [g8n,E1.out,hr2,ahead])
    clear hr2;go_wp2_with fail
    refine cU.mono ?_;rintro e w3 ⟨hg,rfl⟩;exact ⟨rfl,g0q EN.out (P2.out.2.2.2.2.1.trans hg)⟩
   rw [hr2] at cU;have E2:=hid hr2;clear hr2;go_wp2_with fail
   refine cU.mono ?_;rintro e w3 ⟨hg,rfl,hr⟩;obtain ⟨X,hX⟩:∃ X,strB x=X:=⟨_,rfl⟩;obtain ⟨Y,hY⟩:∃ Y,strB y=Y:=⟨_,rfl⟩;rw [show strV x=.string X by rw [<- hX],show strV y=.string Y by rw [<- hY]];obtain ⟨-,q2,q3,q4,q5,q6⟩:=P2.out;have q2':=q2.grown hg (by have:=LT.out;omega);have c1:=q2'.2.2 1 _ rfl;obtain ⟨v',W',hrun,hc,hf,hst⟩:=k4o (n:=n) (R:=R) (k:=k) (x:=x) (y:=y) LT.out hr q2' (q3.grown hg (by have:=LT.out;omega)) (q4.grown hg (by have:=LT.out;omega)) (q5.trans hg) (Nat.le_trans q6 hg.size) (by
    have h:=HST.out.left;rw [show n-k=(n-(k+1))+1 by omega] at h;rw [<- h,<- h2a];simp [g8n,E1.out,E2.out]) HST.out.len (by omega) X Y hX hY
   obtain ⟨A',c',rfl,-,-⟩:=hst.own.row;obtain ⟨m',hm'⟩:∃ m',(ps++[(x,y)]).length=m':=⟨_,rfl⟩;rw [hm'] at hrun hst;have Q:=hid hrun;have HN:=hid hst;clear hrun hst hm' hX hY q2 q3 q4 q5 q6 q2' hg hr cU HST P2;go_wp2_with (at_builtin;(refine g0e rfl (.tmp 22) (.tmp 26) _ rfl rfl rfl Q.out ?_;clear Q))
   go_roundw
   case rel=>exact ⟨k+1,_,_,_,by go_num,by omega,HN.out⟩
   case measure=>simp [intOf];omega
  ·obtain rfl:k=n:=by omega
   obtain ⟨A,c,e0,hrow,hge,hcz,hcl⟩:=h2e hst.own;subst e0;have HCZ:=hid hcz;have HCL:=hid hcl;clear hcz hcl;have c0:wr.cell? ⟨w.heap.size+1,0,none⟩=some (.int .i64 1):=hst.at_.2.2 0 _ rfl;have c1:wr.cell? ⟨w.heap.size+1,1,none⟩=some (.slice A ps.length c):=hst.at_.2.2 1 _ rfl;have c2:wr.cell? ⟨w.heap.size+1,2,none⟩=some (.slice none 0 0):=hst.at_.2.2 2 _ rfl;have c3:wr.cell? ⟨w.heap.size+1,3,none⟩=some (.slice none 0 0):=hst.at_.2.2 3 _ rfl
   have c4:wr.cell? ⟨w.heap.size+1,4,none⟩=some (.slice none 0 0):=hst.at_.2.2 4 _ rfl;have c5:wr.cell? ⟨w.heap.size+1,5,none⟩=some (.int .i64 0):=hst.at_.2.2 5 _ rfl;have c6:wr.cell? ⟨w.heap.size+1,6,none⟩=some (.int .u64 0):=hst.at_.2.2 6 _ rfl;have c7:wr.cell? ⟨w.heap.size+1,7,none⟩=some (.int .i64 0):=hst.at_.2.2 7 _ rfl;have c8:wr.cell? ⟨w.heap.size+1,8,none⟩=some (.int .i64 0):=hst.at_.2.2 8 _ rfl
   have c9:wr.cell? ⟨w.heap.size+1,9,none⟩=some (.int .i64 0):=hst.at_.2.2 9 _ rfl;have c10:wr.cell? ⟨w.heap.size+1,10,none⟩=some (.int .i64 0):=hst.at_.2.2 10 _ rfl;have r0:wr.cell? ⟨w.heap.size,0,none⟩=some (.int .i64 0):=hst.zero.2.2 0 _ rfl;have r1:wr.cell? ⟨w.heap.size,1,none⟩=some (.slice none 0 0):=hst.zero.2.2 1 _ rfl;have r2:wr.cell? ⟨w.heap.size,2,none⟩=some (.slice none 0 0):=hst.zero.2.2 2 _ rfl
   have r3:wr.cell? ⟨w.heap.size,3,none⟩=some (.slice none 0 0):=hst.zero.2.2 3 _ rfl;have r4:wr.cell? ⟨w.heap.size,4,none⟩=some (.slice none 0 0):=hst.zero.2.2 4 _ rfl;have r5:wr.cell? ⟨w.heap.size,5,none⟩=some (.int .i64 0):=hst.zero.2.2 5 _ rfl;have r6:wr.cell? ⟨w.heap.size,6,none⟩=some (.int .u64 0):=hst.zero.2.2 6 _ rfl;have r7:wr.cell? ⟨w.heap.size,7,none⟩=some (.int .i64 0):=hst.zero.2.2 7 _ rfl
   have r8:wr.cell? ⟨w.heap.size,8,none⟩=some (.int .i64 0):=hst.zero.2.2 8 _ rfl;have r9:wr.cell? ⟨w.heap.size,9,none⟩=some (.int .i64 0):=hst.zero.2.2 9 _ rfl;have r10:wr.cell? ⟨w.heap.size,10,none⟩=some (.int .i64 0):=hst.zero.2.2 10 _ rfl;have fz:∀ j,wr.frozen? ⟨w.heap.size,j,none⟩=false:=hst.zero.2.1;have AW:=g2y hst.zero (.int .i64 1) (.slice A ps.length c) (.slice none 0 0) (.slice none 0 0) (.slice none 0 0) (.int .i64 0) (.int .u64 0) (.int .i64 0) (.int .i64 0) (.int .i64 0) (.int .i64 0)
   have GW:=g3p hst.grown (b:=w.heap.size) (Nat.le_refl _) (.int .i64 1) (.slice A ps.length c) (.slice none 0 0) (.slice none 0 0) (.slice none 0 0) (.int .i64 0) (.int .u64 0) (.int .i64 0) (.int .i64 0) (.int .i64 0) (.int .i64 0);have RW:=g6n hst.rd LT.out (.int .i64 1) (.slice A ps.length c) (.slice none 0 0) (.slice none 0 0) (.slice none 0 0) (.int .i64 0) (.int .u64 0) (.int .i64 0) (.int .i64 0) (.int .i64 0) (.int .i64 0)
   have OW:PRow (g1o wr w.heap.size (.int .i64 1) (.slice A ps.length c) (.slice none 0 0) (.slice none 0 0) (.slice none 0 0) (.int .i64 0) (.int .u64 0) (.int .i64 0) (.int .i64 0) (.int .i64 0) (.int .i64 0)) A ps:=by
    have g:=g1f wr w.heap.size (.int .i64 1) (.slice A ps.length c) (.slice none 0 0) (.slice none 0 0) (.slice none 0 0) (.int .i64 0) (.int .u64 0) (.int .i64 0) (.int .i64 0) (.int .i64 0) (.int .i64 0);intro hne;obtain ⟨b,off,e,hlt,hc⟩:=hrow hne;have hb:=hge _ e;simp only at hb;have hne2:some b≠some w.heap.size:=by simp;omega
    refine ⟨b,off,e,Nat.lt_of_lt_of_le hlt g.size,fun j hj=>⟨?_,?_⟩⟩
    ·rw [World.cell?_of_block (w:=wr) (a:=⟨b,off+j*2,none⟩) (g.block b hlt hne2)];exact (hc j hj).1
    ·rw [World.cell?_of_block (w:=wr) (a:=⟨b,off+j*2+1,none⟩) (g.block b hlt hne2)];exact (hc j hj).2
   have EN:Hid (h3g u0=some ({kind:=1,pairs:=ps},v)):=hid (by
    have h:=hst.left;rw [Nat.sub_self] at h;rw [ER.out,<- h];simp [g8n,ahead])
   have HAW:=hid AW;have HGW:=hid GW;have HRW:=hid RW;have HOW:=hid OW;have HLN:=hid hst.len;have HGE:Hid (∀ a,A=some a->w.heap.size<=a.block):=hid (fun a ha=>Nat.le_trans (by omega) (hge a ha));clear AW GW RW OW hst hrow hge;generalize hpl:ps.length=pl at *;go_wp2_with fail
   change bodyPost _ _ _ _ _ (g1o wr w.heap.size (.int .i64 1) (.slice A pl c) (.slice none 0 0) (.slice none 0 0) (.slice none 0 0) (.int .i64 0) (.int .u64 0) (.int .i64 0) (.int .i64 0) (.int .i64 0) (.int .i64 0));generalize g1o wr w.heap.size (.int .i64 1) (.slice A pl c) (.slice none 0 0) (.slice none 0 0) (.slice none 0 0) (.int .i64 0) (.int .u64 0) (.int .i64 0) (.int .i64 0) (.int .i64 0) (.int .i64 0)=W at *
   clear c0 r0 c1 r1 c2 r2 c3 r3 c4 r4 c5 r5 c6 r6 c7 r7 c8 r8 c9 r9 c10 r10 fz;have c0:=HAW.out.2.2 0 _ rfl;have c1:=HAW.out.2.2 1 _ rfl;have c2:=HAW.out.2.2 2 _ rfl;have c3:=HAW.out.2.2 3 _ rfl;have c4:=HAW.out.2.2 4 _ rfl;have c5:=HAW.out.2.2 5 _ rfl;have c6:=HAW.out.2.2 6 _ rfl;have c7:=HAW.out.2.2 7 _ rfl;have c8:=HAW.out.2.2 8 _ rfl;have c9:=HAW.out.2.2 9 _ rfl;have c10:=HAW.out.2.2 10 _ rfl
   refine bodyPost_ret (v:=.agg #[.int .i64 1,.slice A pl c,.slice none 0 0,.slice none 0 0,.slice none 0 0,.int .i64 0,.int .u64 0,.int .i64 0,.int .i64 0,.int .i64 0,.int .i64 0]) (by simp [results,Tryz.results268,go_sem, *]) rfl ?_;subst hpl;refine g3o (p:={kind:=1,pairs:=ps}) (u:=v) {A1:=A,c1:=c} EN.out HGW.out ⟨HOW.out,fun h=>absurd rfl h,fun h=>absurd rfl h,fun h=>absurd rfl h⟩ (by have:=HLN.out;refine ⟨?_,?_,?_,?_,?_,?_,?_,?_,?_,?_,?_⟩ <;> simp [I64] <;> omega) HRW.out ⟨HGE.out,(fun _ h=>by cases h),(fun _ h=>by cases h),(fun _ h=>by cases h),(fun _=>rfl),HCL.out,(by simp),(by simp),(by simp),HCZ.out,(fun _=>rfl),(fun _=>rfl)⟩
end Go.Proofs.YtglejnkoojpelaaGreat.Page

import Derived.Test.YtglejnkoojpelaaGreatMT2
import Derived.Test.YtglejnkoojpelaaGreatMT5
import Derived.Test.YtglejnkoojpelaaGreatMT3
import Derived.Test.YtglejnkoojpelaaGreatMT4
set_option maxRecDepth 100000
set_option maxHeartbeats 32000000
namespace Go.Proofs.YtglejnkoojpelaaGreat.Tree
open Go.RowKit Go.Shelf Gen
open Disk (St Dev Mod ptr)
open Page (Pg Lay PgOk g0c pgC pgV Enc g0v BytesAt strV strB PRow SRow IRow less h3f Drew)
open Pool (Po NAt PoAt La poC poV numV At g0k g1g g1k g2m g0g OwnI chunks layAll May)
open Store
open Lib (hid)
attribute [local go_sem] Oper.semAt_some
def PutW (R:St->T->Pg->Int->Prop) (w0:World) (B:Blk) (tb:Nat) (r dp c:Int) (w:World) (e:Ending) (w':World):Prop :=
 ∃ d' t' b yb x,e=.returned (.tuple #[pgV b yb,numV x])/\R d' t' b x/\TrOn w0 w' B tb d' t' r dp c/\Mod (tall tb B) w w'/\g0c w' b yb/\Page.New b yb w.heap.size/\PgOk b
inductive g4w (PR:Stp->Pg->St->T->St->T->Pg->Int->Prop) (CR:Pg->St->T->St->T->Int->Int->Int->Prop) (r dp:Int):List Stp->Pg->St->T->St->T->Int->Int->Int->Prop
 | top {p d t d' t' r' dp' x}:CR p d t d' t' r' dp' x->g4w PR CR r dp [] p d t d' t' r' dp' x
 | err {s ss p d t d' t' b x}:PR s p d t d' t' b x->x≠0->g4w PR CR r dp (s :: ss) p d t d' t' r dp x
 | same {s ss p d t d' t' b}:PR s p d t d' t' b 0->b.keys=s.p.keys->b.kids=s.p.kids->g4w PR CR r dp (s :: ss) p d t d' t' r dp 0
 | up {s ss p d t d1 t1 b d' t' r' dp' x}:PR s p d t d1 t1 b 0->¬ (b.keys=s.p.keys/\b.kids=s.p.kids)->g4w PR CR r dp ss b d1 t1 d' t' r' dp' x->g4w PR CR r dp (s :: ss) p d t d' t' r' dp' x
theorem h0g {α:Type} {enc:α->Value} {w:World} {A:Option Addr} {l:List α} (h:RowG w enc A l) (hne:l≠[]) {a:Addr} (e:A=some a) {o:Obj} (ho:w.heap[a.block]?=some o):o.isCells=true:=by
 obtain ⟨b,off,e2,hlt,hc⟩:=h hne;rw [e] at e2;cases e2;have h0:=hc 0 (List.length_pos_iff.2 hne);unfold World.cell? at h0;simp only at ho;rw [ho] at h0;cases o <;> simp_all [Obj.isCells]
theorem j7x {w:World} {A:Option Addr} {l:List (Disk.Bs×Disk.Bs)} (h:PRow w A l) (hne:l≠[]) {a:Addr} (e:A=some a) {o:Obj} (ho:w.heap[a.block]?=some o):o.isCells=true:=by
 obtain ⟨b,off,e2,hlt,hc⟩:=h hne;rw [e] at e2;cases e2;have h0:=(hc 0 (List.length_pos_iff.2 hne)).1;unfold World.cell? at h0;simp only at ho;rw [ho] at h0;cases o <;> simp_all [Obj.isCells]
theorem k6o {w:World} {b:Nat} {C:Array Value} (h:At w b C) (hC:0<C.size) {o:Obj} (ho:w.heap[b]?=some o):o.isCells=true:=by
 have h0:=h.2.2 0 _ (Array.getElem?_eq_getElem hC);unfold World.cell? at h0;rw [ho] at h0;cases o <;> simp_all [Obj.isCells]
abbrev k0g (W W':World) (row:Option Nat):Prop:=W.grownBy W' row/\∀ r,row=some r->∃ o:Obj,W.heap[r]?=some o/\o.isCells=false
theorem g9f {W W':World} {row:Option Nat} {b:Nat} {C:Array Value} (h:At W b C) (hC:0<C.size) (g:k0g W W' row):At W' b C:=by
 rcases row with _ | r
 ·exact h.below ((Below.refl W.heap.size W).grown g.1 (Nat.le_refl _) (fun k e=>by cases e)) h.1
 ·refine g0l h ((Mod.refl [r] W).grown g.1 (fun k e=>.inl (by cases e;simp))) (fun e=>?_);rw [List.mem_singleton] at e;obtain ⟨o,ho,hc⟩:=g.2 r rfl;rw [<- e] at ho;rw [k6o h hC ho] at hc;cases hc
theorem j5h {W W':World} {row:Option Nat} {p:Pg} {y:Lay} (h:g0c W p y) (g:k0g W W' row):g0c W' p y:=by
 rcases row with _ | r
 ·exact h.below ((Below.refl W.heap.size W).grown g.1 (Nat.le_refl _) (fun k e=>by cases e))
 ·obtain ⟨o,ho,hc⟩:=g.2 r rfl;have no:o.isCells≠true:=by rw [hc];simp
  refine g4f h ((Mod.refl [r] W).grown g.1 (fun k e=>.inl (by cases e;simp))) ⟨fun hne x e hx=>?_,fun hne x e hx=>?_,fun hne x e hx=>?_,fun hne x e hx=>?_⟩ <;> rw [List.mem_singleton] at hx <;> rw [<- hx] at ho
  ·exact no (j7x h.r1 hne e ho)
  ·exact no (h0g h.r2 hne e ho)
  ·exact no (h0g h.r3 hne e ho)
  ·exact no (h0g h.r4 hne e ho)
theorem TrOn.loops {w0 W W':World} {row:Option Nat} {B:Blk} {tb:Nat} {d:St} {t:T} {r dp c:Int} (h:TrOn w0 W B tb d t r dp c) (g:k0g W W' row) (hr:∀ k,row=some k->k∉tall tb B/\w0.heap.size<=k):TrOn w0 W' B tb d t r dp c:=by
 rcases row with _ | k
 ·exact h.quiet ((Below.refl W.heap.size W).grown g.1 (Nat.le_refl _) (fun k e=>by cases e))
 ·obtain ⟨o,ho,hc⟩:=g.2 k rfl;have no:o.isCells≠true:=by rw [hc];simp
  obtain ⟨h1,h2⟩:=hr k rfl;have m:Mod [k] W W':=(Mod.refl [k] W).grown g.1 (fun k e=>.inl (by cases e;simp));obtain ⟨a,s⟩:=h.sto.has;have off:∀ {A:Option Addr} {n c:Nat} {l:List Int},NAt W A n c l->l≠[]->Off [k] A:=fun hN hne x ex hx=>by
   rw [List.mem_singleton] at hx;rw [<- hx] at ho;exact no (h0g hN.row hne ex ho)
  exact ⟨⟨⟨a,s.other m (fun e=>h1 (List.mem_cons_of_mem _ e)) ⟨fun hne=>off s.own hne,fun hne=>off s.base.f hne,fun hne=>off s.base.l hne,fun hne=>off s.pool.f hne,fun hne=>off s.pool.l hne⟩⟩,h.sto.below.trans (m.below h.sto.below.size (fun k hk=>by simp only [List.mem_singleton] at hk;rw [hk];exact h2)),h.sto.new⟩,g0l h.box m (fun e=>by rw [List.mem_singleton] at e;exact h1 (by rw [<- e];exact List.mem_cons_self ..)),h.out,h.mem,h.new⟩
theorem k5a {S:List Nat} {W W':World} {n:Nat} (m:Mod S W W') (hS:∀ k∈S,k<n):KeepsFrom n W W' :=
 ⟨m.size,fun k o hk hh _=>(m.block k (Array.getElem?_eq_some_iff.1 hh).1 (fun e=>by have:=hS k e;omega)).trans hh⟩
theorem j9d:Tryz.prog.underlying 164=some (.slice (Tryz.prog.elem 164)):=by kernel_rfl
theorem k0a (w:World):(sizeOf (Tryz.prog.elem 164)).run Tryz.prog w=.ok 13 w:=by kernel_rfl
theorem j9f (A:Option Addr) (n c k:Nat) (h:k<=c) (W:World):(Instr.slice 164 (.slice A n c) none (some (.int .i64 (k:Int))) none).run Tryz.prog W=.ok (.slice A k c) W:=by
 rw [run_slice_h W 164 A n c j9d .i64 (k:Int) (by omega) (by omega),k0a];unfold sliced;rcases A with _ | a
 ·simp [Result.andThen]
 ·simp [Result.andThen,addz]
theorem k5f {w:World} {b:Nat} {x:Int} (h:At w b #[.int .i64 x]):(loadVar 36 ⟨b,0,none⟩).run Tryz.prog w=.ok (numV x) w:=by
 have h0:w.cell? ⟨b,0,none⟩=some (.int .i64 x):=h.2.2 0 _ rfl;simp [go_sem,loadVar,h0]
structure ClI (PR:Stp->Pg->St->T->St->T->Pg->Int->Prop) (CR:Pg->St->T->St->T->Int->Int->Int->Prop) (Q:Pg->Prop) (l:List Stp) (w0 w w5:World) (n1:Nat) (B:Blk) (tb:Nat) (r dp c:Int) (p:Pg) (d:St) (t:T) (pre:List Stp) (b:Pg) (yb:Lay) (d1:St) (t1:T) (W:World):Prop where
 tr:TrOn w0 W (g4i B [w.heap.size+3,w.heap.size+2]) tb d1 t1 r dp c
 b7:At W (w.heap.size+3) (pgC b yb)
 pr:g0c W b yb
 pn:Page.New b yb n1
 ok:PgOk b
 q:Q b
 rest:∀ ss d' t' r' dp' x,g4w PR CR r dp ss b d1 t1 d' t' r' dp' x->g4w PR CR r dp (pre++ss) p d t d' t' r' dp' x
 b3:At W w.heap.size #[ptr tb]
 b6:At W (w.heap.size+2) #[.int .i64 0]
 rows:∀ s∈l,g0c W s.p s.y
 mod:Mod (tall tb B) w W
 siz:w5.heap.size<=W.heap.size
structure ClX (PR:Stp->Pg->St->T->St->T->Pg->Int->Prop) (CR:Pg->St->T->St->T->Int->Int->Int->Prop) (w0 w w5:World) (B:Blk) (tb:Nat) (r dp c:Int) (p:Pg) (d:St) (t:T) (pre:List Stp) (d1:St) (t1:T) (x:Int) (W:World):Prop where
 tr:TrOn w0 W (g4i B [w.heap.size+3,w.heap.size+2]) tb d1 t1 r dp c
 rest:∀ ss,g4w PR CR r dp (pre++ss) p d t d1 t1 r dp x
 b6:At W (w.heap.size+2) #[.int .i64 x]
 mod:Mod (tall tb B) w W
 siz:w5.heap.size<=W.heap.size
theorem j0t {S:List Nat} {w w5 W W':World} {row:Option Nat} (m:Mod S w W) (g:W.grownBy W' row) (h5:w.heap.size<=w5.heap.size) (hr:∀ k,row=some k->w5.heap.size<=k):Mod S w W' :=
 m.grown g (fun k e=>.inr (Nat.le_trans h5 (hr k e)))
theorem ClI.own {PR CR Q} {l:List Stp} {w0 w w5:World} {n1:Nat} {B:Blk} {tb:Nat} {r dp c:Int} {p:Pg} {d:St} {t:T} {pre:List Stp} {b:Pg} {yb:Lay} {d1:St} {t1:T} {W W':World} {row:Option Nat} (h5:w.heap.size<=w5.heap.size) (hl:∀ k∈tall tb B,k<w5.heap.size) (h0:w0.heap.size<=w5.heap.size) (h:ClI PR CR Q l w0 w w5 n1 B tb r dp c p d t pre b yb d1 t1 W) (g:W.grownBy W' row) (hr:∀ k,row=some k->w5.heap.size<=k/\∃ o:Obj,W.heap[k]?=some o/\o.isCells=false):ClI PR CR Q l w0 w w5 n1 B tb r dp c p d t pre b yb d1 t1 W':=by
 have G:k0g W W' row:=⟨g,fun k e=>(hr k e).2⟩;exact ⟨h.tr.loops G (fun k e=>⟨fun e2=>by have:=hl k e2;have:=(hr k e).1;omega,Nat.le_trans h0 (hr k e).1⟩),g9f h.b7 (by simp) G,j5h h.pr G,h.pn,h.ok,h.q,h.rest,g9f h.b3 (by simp) G,g9f h.b6 (by simp) G,fun s hs=>j5h (h.rows s hs) G,j0t h.mod g h5 (fun k e=>(hr k e).1),Nat.le_trans h.siz g.size⟩
theorem ClX.own {PR CR} {w0 w w5:World} {B:Blk} {tb:Nat} {r dp c:Int} {p:Pg} {d:St} {t:T} {pre:List Stp} {d1:St} {t1:T} {x:Int} {W W':World} {row:Option Nat} (h5:w.heap.size<=w5.heap.size) (hl:∀ k∈tall tb B,k<w5.heap.size) (h0:w0.heap.size<=w5.heap.size) (h:ClX PR CR w0 w w5 B tb r dp c p d t pre d1 t1 x W) (g:W.grownBy W' row) (hr:∀ k,row=some k->w5.heap.size<=k/\∃ o:Obj,W.heap[k]?=some o/\o.isCells=false):ClX PR CR w0 w w5 B tb r dp c p d t pre d1 t1 x W':=by
 have G:k0g W W' row:=⟨g,fun k e=>(hr k e).2⟩;exact ⟨h.tr.loops G (fun k e=>⟨fun e2=>by have:=hl k e2;have:=(hr k e).1;omega,Nat.le_trans h0 (hr k e).1⟩),h.rest,g9f h.b6 (by simp) G,j0t h.mod g h5 (fun k e=>(hr k e).1),Nat.le_trans h.siz g.size⟩
structure ClM (l:List Stp) (w0 w w5:World) (B:Blk) (tb:Nat) (r dp c:Int) (b:Pg) (yb:Lay) (d1:St) (t1:T) (W:World):Prop where
 tr:TrOn w0 W (g4i B [w.heap.size+3,w.heap.size+2]) tb d1 t1 r dp c
 b7:At W (w.heap.size+3) (pgC b yb)
 b3:At W w.heap.size #[ptr tb]
 b6:At W (w.heap.size+2) #[.int .i64 0]
 rows:∀ s∈l,g0c W s.p s.y
 mod:Mod (tall tb B) w W
 siz:w5.heap.size<=W.heap.size
theorem ClM.put {l:List Stp} {w0 w w5:World} {B:Blk} {tb:Nat} {r dp c:Int} {b:Pg} {yb:Lay} {d1 d2:St} {t1 t2:T} {W W':World} (h:ClM l w0 w w5 B tb r dp c b yb d1 t1 W) {n1:Nat} (hlow:∀ k∈tall tb B,k<n1) (hn:n1<=w.heap.size) (news:∀ s∈l,Page.New s.p s.y n1) (H:TrOn w0 W' (g4i B [w.heap.size+3,w.heap.size+2]) tb d2 t2 r dp c) (m:Mod (tall tb B) W W'):ClM l w0 w w5 B tb r dp c b yb d2 t2 W':=by
 have no:∀ k,w.heap.size<=k->k∉tall tb B:=fun k hk e=>by have:=hlow k e;omega
 exact ⟨H,g0l h.b7 m (no _ (by omega)),g0l h.b3 m (no _ (by omega)),g0l h.b6 m (no _ (by omega)),fun s hs=>g4f (h.rows s hs) m ⟨fun _ x e hx=>by have:=(news s hs).n1 x e;have:=hlow _ hx;omega,fun _ x e hx=>by have:=(news s hs).n2 x e;have:=hlow _ hx;omega,fun _ x e hx=>by have:=(news s hs).n3 x e;have:=hlow _ hx;omega,fun _ x e hx=>by have:=(news s hs).n4 x e;have:=hlow _ hx;omega⟩,h.mod.trans m,Nat.le_trans h.siz m.size⟩
theorem ClM.below {l:List Stp} {w0 w w5:World} {B:Blk} {tb:Nat} {r dp c:Int} {b:Pg} {yb:Lay} {d1:St} {t1:T} {W W':World} (h:ClM l w0 w w5 B tb r dp c b yb d1 t1 W) (q:Below W.heap.size W W'):ClM l w0 w w5 B tb r dp c b yb d1 t1 W' :=
 ⟨h.tr.quiet q,h.b7.below q h.b7.1,h.b3.below q h.b3.1,h.b6.below q h.b6.1,fun s hs=>(h.rows s hs).below q,h.mod.trans (Mod.of_below _ q),Nat.le_trans h.siz q.size⟩
theorem ClM.turn {l:List Stp} {w0 w w5:World} {B:Blk} {tb:Nat} {r dp c:Int} {b:Pg} {yb:Lay} {d1:St} {t1:T} {W:World} (h:ClM l w0 w w5 B tb r dp c b yb d1 t1 W) (h0:w0.heap.size<=w.heap.size) (hout:∀ k∈tall tb B,k<w.heap.size) (orig:∀ s∈l,g0c w s.p s.y) (nb:Pg) (ny:Lay) (pr:g0c W nb ny) {n:Nat} (hn:Page.New nb ny n) (hb:w.heap.size+3<n) :
 ClM l w0 w w5 B tb r dp c nb ny d1 t1 (W.setCells (w.heap.size+3) 0 (pgC nb ny).toList)/\g0c (W.setCells (w.heap.size+3) 0 (pgC nb ny).toList) nb ny/\Mod [w.heap.size+3] W (W.setCells (w.heap.size+3) 0 (pgC nb ny).toList):=by
 have g:=g0n (pgC nb ny).toList 0 W (w.heap.size+3);have m:Mod [w.heap.size+3] W (W.setCells (w.heap.size+3) 0 (pgC nb ny).toList):=(Mod.refl [w.heap.size+3] W).grown g (fun k e=>.inl (by cases e;simp));have no:w.heap.size+3∉tall tb B:=fun e=>by have:=hout _ e;omega
 refine ⟨⟨h.tr.touch (x:=w.heap.size+3) (List.mem_cons_self ..) no (by omega) m,g2o h.b7 (vs:=(pgC nb ny).toList) (o:=0) (by simp) rfl,g0l h.b3 m (by simp),g0l h.b6 m (by simp),fun s hs=>g4f (h.rows s hs) m (h4c (orig s hs) (by omega)),h.mod.grown g (fun k e=>.inr (by cases e;omega)),Nat.le_trans h.siz m.size⟩,g4f pr m (g4u hn hb),m⟩
theorem ClM.tell {l:List Stp} {w0 w w5:World} {B:Blk} {tb:Nat} {r dp c:Int} {b:Pg} {yb:Lay} {d1:St} {t1:T} {W:World} (h:ClM l w0 w w5 B tb r dp c b yb d1 t1 W) (h0:w0.heap.size<=w.heap.size) (hout:∀ k∈tall tb B,k<w.heap.size) (x:Int) :
 TrOn w0 (W.setCell ⟨w.heap.size+2,0,none⟩ (.int .i64 x)) (g4i B [w.heap.size+3,w.heap.size+2]) tb d1 t1 r dp c/\At (W.setCell ⟨w.heap.size+2,0,none⟩ (.int .i64 x)) (w.heap.size+2) #[.int .i64 x]/\Mod (tall tb B) w (W.setCell ⟨w.heap.size+2,0,none⟩ (.int .i64 x))/\Mod [w.heap.size+2] W (W.setCell ⟨w.heap.size+2,0,none⟩ (.int .i64 x)):=by
 have m:=g0z W (w.heap.size+2) 0 (.int .i64 x);have no:w.heap.size+2∉tall tb B:=fun e=>by have:=hout _ e;omega
 exact ⟨h.tr.touch (x:=w.heap.size+2) (by simp) no (by omega) m,at_set h.b6 0 _,h.mod.setCell ⟨w.heap.size+2,0,none⟩ _ (.inr (by simp)),m⟩
theorem h0i {b:Nat} {W W':World} {n:Nat} (m:Mod [b] W W') (hb:b<n):KeepsFrom n W W' :=
 ⟨m.size,fun k o hk hh _=>(m.block k (Array.getElem?_eq_some_iff.1 hh).1 (fun e=>by rw [List.mem_singleton] at e;omega)).trans hh⟩
theorem h6y {w0 w W:World} {B:Blk} {X:List Nat} {tb:Nat} {d1:St} {t1:T} {r c dp x:Int} {b D n5:Nat} (tr:TrOn w0 W (g4i B X) tb d1 t1 r dp c) (hb:At W b #[.int .i64 x]) (m:Mod (tall tb B) w W) (hm:tb∈B.xs) (hD:n5<=D) (hl:∀ k∈tall tb B,k<n5) (h0:w0.heap.size<=n5) (hw:w.heap.size<=n5) (hK:W.heap[D]?=some (.deferred (some []))) :
 TrOn w0 (W.putObj D (.deferred none)) B tb d1 t1 r dp c/\At (W.putObj D (.deferred none)) b #[.int .i64 x]/\Mod (tall tb B) w (W.putObj D (.deferred none)):=by
 have g:=grownBy_putObj' W D (.deferred none);have G:k0g W (W.putObj D (.deferred none)) (some D):=⟨g,fun r e=>by cases e;exact ⟨_,hK,rfl⟩⟩;exact ⟨TrOn.unxs hm X (tr.loops G (fun k e=>by cases e;exact ⟨fun e=>by have:=hl _ e;omega,by omega⟩)),g9f hb (by simp) G,m.grown g (fun k e=>.inr (by cases e;omega))⟩
theorem j1b {w0 w w1:World} {B:Blk} {tb:Nat} {d:St} {t:T} {r dp c:Int} (h:TrOn w0 w B tb d t r dp c) {v:Value} {l:List Stp} {s:Stp} (hv:Way w1 w v (l++[s])) (hw1:w1.heap.size<=w.heap.size) (hlow:∀ k∈tall tb B,k<w1.heap.size) (hln:l.length<=1000) (p:Pg) (y:Lay) (hr:g0c w p y) (hn:Page.New p y w1.heap.size) (hok:PgOk p)
 {PR:Stp->Pg->St->T->St->T->Pg->Int->Prop} {CR:Pg->St->T->St->T->Int->Int->Int->Prop} {Q:Pg->Prop} (hq:Q p) (hqq:∀ s∈l,∀ b d t d' t' b',PR s b d t d' t' b' 0->Q b') (hqn:∀ b,Q b->b.keys.length<=100000/\b.kids.length<=100000) (hsn:∀ s∈l,s.p.keys.length<=100000/\s.p.kids.length<=100000)
 (hput:∀ X W d1 t1 s b yb,s∈l->w.heap.size<=W.heap.size->TrOn w0 W (g4i B X) tb d1 t1 r dp c->g0c W s.p s.y->g0c W b yb->Page.New s.p s.y w1.heap.size->PgOk s.p->Page.New b yb w1.heap.size->PgOk b->Q b->Calls Tryz.prog 182 #[ptr tb,.agg (stC s),pgV b yb] W (PutW (PR s b d1 t1) w0 (g4i B X) tb r dp c W))
 (hcrown:∀ X W d1 t1 b yb,w.heap.size<=W.heap.size->TrOn w0 W (g4i B X) tb d1 t1 r dp c->g0c W b yb->Page.New b yb w1.heap.size->PgOk b->Q b->Calls Tryz.prog 185 #[ptr tb,.int .i64 ((l++[s]).head (by simp)).at_,.int .i64 ((l.length+1:Nat):Int),pgV b yb] W (g8h (CR b d1 t1) w0 (g4i B X) tb c W)) :
 Calls Tryz.prog 141 #[ptr tb,v,pgV p y] w (g8h (g4w PR CR r dp l.reverse p d t) w0 B tb c w):=by
 obtain ⟨A,cc,rfl,hcc,hcm,hrow,hge⟩:=OwnS.row hv.own;have hne:(l++[s])≠[]:=by simp
 obtain ⟨g,o,eA,hgl,hgc⟩:=hrow hne;have hgb:w1.heap.size<=g:=hge ⟨g,o,none⟩ eA;have HROW:=hid (show k7s w A l from fun _=>⟨g,o,eA,hgl,fun j hj=>by
  have:=hgc j (by simp;omega)
  rwa [List.getElem_append_left hj] at this⟩)
 obtain ⟨a0,ha0⟩:∃ a0,((l++[s]).head (by simp)).at_=a0:=⟨_,rfl⟩;have hat0:w.cell? ⟨g,o,none⟩=some (.int .i64 a0):=by
  have h0:=hgc 0 (by simp);have h1:=h0 0 (.int .i64 a0) (by
   rw [<- ha0];have:(l++[s])[0]'(by simp)=(l++[s]).head (by simp):=by rw [List.head_eq_getElem]
   rw [this];rfl)
  simpa using h1
 have HROWS:=hid (show ∀ s∈l,g0c w s.p s.y from fun x hx=>hv.rows x (List.mem_append_left _ hx));have HNEW:=hid (show ∀ s∈l,Page.New s.p s.y w1.heap.size from fun x hx=>hv.new x (List.mem_append_left _ hx));have HOKS:=hid (show ∀ s∈l,PgOk s.p from fun x hx=>hv.ok x (List.mem_append_left _ hx));have hN:(l++[s]).length=l.length+1:=by simp
 rw [hN] at hcc ⊢;obtain ⟨k,hk⟩:∃ k,l.length=k:=⟨_,rfl⟩;obtain ⟨N,hNk⟩:∃ N,k+1=N:=⟨_,rfl⟩;rw [hk,hNk] at hcc ⊢;rw [ha0,hk,hNk] at hcrown;have hwN:IntKind.i64.wrap ((N:Int)-1)=(k:Int):=by rw [IntWalk.i64_in _ (by omega)];omega
 have s1:∀ W,(Instr.slice 164 (.slice A N cc) none (some (.int .i64 (k:Int))) none).run Tryz.prog W=.ok (.slice A k cc) W:=fun W=>j9f A N cc k (by omega) W
 have e1:(w.alloc (.cells #[ptr tb] 24)).heap.size=w.heap.size+1:=by simp
 have b1:=Pool.g0a w (.cells #[ptr tb] 24);have a1:=at_new w #[ptr tb] 24;obtain ⟨W1,hW1⟩:∃ W1,w.alloc (.cells #[ptr tb] 24)=W1:=⟨_,rfl⟩;rw [hW1] at b1 a1 e1;have e2:(W1.alloc (.cells (pgC p y) 103)).heap.size=w.heap.size+2:=by simp [e1]
 have b2:=Pool.g0a W1 (.cells (pgC p y) 103);have a2:=at_new W1 (pgC p y) 103;obtain ⟨W2,hW2⟩:∃ W2,W1.alloc (.cells (pgC p y) 103)=W2:=⟨_,rfl⟩;rw [hW2] at b2 a2 e2;have e3:(W2.alloc (.cells #[.int .i64 0] 36)).heap.size=w.heap.size+3:=by simp [e2]
 have b3:=Pool.g0a W2 (.cells #[.int .i64 0] 36);have a3:=at_new W2 #[.int .i64 0] 36;obtain ⟨W3,hW3⟩:∃ W3,W2.alloc (.cells #[.int .i64 0] 36)=W3:=⟨_,rfl⟩;rw [hW3] at b3 a3 e3;have e4:(W3.alloc (.cells (pgC p y) 103)).heap.size=w.heap.size+4:=by simp [e3]
 have b4:=Pool.g0a W3 (.cells (pgC p y) 103);have a4:=at_new W3 (pgC p y) 103;have L:=hid (g1c (o:=0) (a2.below b3 a2.1) p y rfl);have P:=hid (g1s W3 p y);obtain ⟨W4,hW4⟩:∃ W4,W3.alloc (.cells (pgC p y) 103)=W4:=⟨_,rfl⟩;rw [hW4] at b4 a4 P e4;have b5:=Pool.g0a W4 (.cells #[.slice A k cc] 164);have a5:=at_new W4 #[.slice A k cc] 164;have e5:(W4.alloc (.cells #[.slice A k cc] 164)).heap.size=w.heap.size+5:=by simp [e4]
 have cB4:=(callsIn_wide (n:=4)).1 (p1q Fence.wide 4 trivial rfl A k cc W4);obtain ⟨W5,hW5⟩:∃ W5,W4.alloc (.cells #[.slice A k cc] 164)=W5:=⟨_,rfl⟩;rw [hW5] at b5 a5 e5 cB4;have B45:Below W4.heap.size W4 W5:=b5;have B35:Below W3.heap.size W3 W5:=b4.trans (B45.mono b4.size);have B25:Below W2.heap.size W2 W5:=b3.trans (B35.mono b3.size);have B15:Below W1.heap.size W1 W5:=b2.trans (B25.mono b2.size)
 have BW5:=hid (show Below w.heap.size w W5 from b1.trans (B15.mono b1.size));have TAL:=hid (show ∀ k∈tall tb B,k<W5.heap.size from fun k hk=>by have:=hlow k hk;omega);have LOW:=hid hlow;have HX:TrOn w0 W5 (g4i B [w.heap.size+3,w.heap.size+2]) tb d t r dp c:=by
  have q1:=(h.quiet b1).quiet b2;have q2:=q1.withx b3 (Nat.le_refl W2.heap.size) (by omega);have q3:=q2.withx b4 (Nat.le_refl W3.heap.size) (by omega);have q4:=q3.quiet b5;rw [e2,e3] at q4;exact q4
 have CI0:=hid (show ClI PR CR Q l w0 w W5 w1.heap.size B tb r dp c p d t [] p y d t W5 from
  ⟨HX,by have:=a4.below B45 a4.1;rwa [e3] at this,hr.below BW5.out,hn,hok,hq,fun _ _ _ _ _ _ h=>h,a1.below B15 a1.1,by have:=a3.below B35 a3.1;rwa [e2] at this,fun s hs=>(HROWS.out s hs).below BW5.out,Mod.of_below _ BW5.out,Nat.le_refl _⟩)
 have HQ:=hid hqq;have HQN:=hid hqn;have HSN:=hid hsn;have HPUT:=hid hput;have HCR:=hid hcrown;have HK:=hid hk;have HEA:=hid eA;have MEM:=hid h.mem;have HW1:=hid hw1;have H0:=hid (show w0.heap.size<=w.heap.size from h.sto.below.size);have TOUT:=hid (show ∀ k∈tall tb B,k<w.heap.size from fun k hk=>Nat.lt_of_lt_of_le (hlow k hk) hw1);have hW05:w0.heap.size<=W5.heap.size:=Nat.le_trans h.sto.below.size BW5.out.size
 have hW15:w.heap.size<=W5.heap.size:=BW5.out.size;have h5a:w.heap.size+4<W5.heap.size:=by omega
 have HS5:=hid e5;have A54:=a5.2.2 0 _ rfl;have hat5:W5.cell? ⟨g,o,none⟩=some (.int .i64 a0):=(BW5.out.cell (p:=⟨g,o,none⟩) hgl).trans hat0;have hgS:g∉tall tb B:=fun e=>by have:=hlow g e;omega
 have HAT:=hid (show g<w.heap.size/\g∉tall tb B/\W5.cell? ⟨g,o,none⟩=some (.int .i64 a0) from ⟨hgl,hgS,hat5⟩);have CST:=hid (j8n Fence.wide 4 trivial rfl (by omega) (w.heap.size+4) ((w.heap.size+3) :: (w.heap.size+2) :: tall tb B) A k cc l W5 hk (fun hne=>by
  obtain ⟨g',o',e',hl',hc'⟩:=HROW.out hne;exact ⟨g',o',e',Nat.lt_of_lt_of_le hl' hW15,fun j hj i u hu=>(BW5.out.cell (p:=⟨g',o'+j*13+i,none⟩) hl').trans (hc' j hj i u hu)⟩) (fun _ a e=>by
  rw [eA] at e;cases e;intro e2;rcases List.mem_cons.1 e2 with e2 | e2
  ·simp only at e2;omega
  rcases List.mem_cons.1 e2 with e2 | e2
  ·simp only at e2;omega
  exact hgS e2) (by omega) (fun e=>by
  rcases List.mem_cons.1 e with e | e
  ·omega
  rcases List.mem_cons.1 e with e | e
  ·omega
  have:=hlow _ e;omega) (by omega) (by omega) (by rw [<- e4];exact A54))
 obtain ⟨C,hC⟩:∃ C,pgC p y=C:=⟨_,rfl⟩;have PV:pgV p y=.agg C:=congrArg Value.agg hC;rw [hC] at hW2 hW4;have P':=P;clear P;rw [PV] at L P';rw [PV];have E1:=hid e1;have E2:=hid e2;have E3:=hid e3;have E4:=hid e4;unfold pgZ at P';clear eA hC PV a1 a2 a3 a4 a5 b1 b2 b3 b4 b5 B45 B35 B25 B15 A54 hqq hqn hsn hput hcrown hk hat5 hat0 hgS hgb hgl hgc hge hrow hcc hcm hv hr hn hok hq hln hlow hw1 ha0 hN hne h e5
 refine (callsIn_wide (n:=5)).1 ?_;refine callsIn_of_wp_marks Tryz.func141 rfl trivial ?_ rfl;simp only [Tryz.ntmps141,List.size_toArray,List.length_cons,List.length_nil,Nat.reduceAdd,Nat.reduceSub,Array.replicate_succ,Array.replicate_zero,List.push_toArray,List.append_toArray,List.nil_append,List.cons_append];refine wpIn_wide.2 ?_;clear e1 e2 e3 e4;go_wp2_with (first | ((with_reducible refine Disk.g0w rfl 103 (.tmp 2) rfl C ?_ ?_);(next=>rfl)) | ((with_reducible refine Disk.g0d rfl 103 (.tmp 5) rfl _ ?_ L.out ?_);(next=>rfl)) | ((with_reducible refine Disk.g0b rfl 103 (.tmp 7) (.tmp 12) rfl _ _ ?_ ?_ P'.out ?_);(next=>rfl);(next=>rfl)))
 refine cB4.mono ?_;rintro e w5 ⟨rfl,rfl⟩;clear cB4;go_wp2_with fail
 rw [E1.out,E2.out,E3.out,E4.out];clear E1 E2 E3 E4 L P' hW1 hW2 hW3 hW4 hW5 s1 hwN;refine (wpIn_wide (n:=5)).1 ?_;refine wpIn_rangeFunc_ownH rfl (by omega) (gf:=225) (lb:=#[ptr (w.heap.size+4)]) rfl trivial (enters_of Tryz.func225 (by kernel_rfl) rfl)
  CST.out g4l.trans (k2t (Nat.le_refl _)) (Below.refl _ _) (fun _=>rfl)
  (fun pre W=>∃ b yb d1 t1,ClI PR CR Q l w0 w w5 w1.heap.size B tb r dp c p d t (pre.map (·.1.2)) b yb d1 t1 W)
  (fun cd pre W=>cd=.ret/\∃ d1 t1 x,ClX PR CR w0 w w5 B tb r dp c p d t (pre.map (·.1.2)) d1 t1 x W)
  (fun pre W W' row hs hg hr=>by
    obtain ⟨b,yb,d1,t1,hs⟩:=hs;exact ⟨b,yb,d1,t1,hs.own hW15 TAL.out hW05 hg hr⟩)
  (fun cd pre W W' row hs hg hr=>by
    obtain ⟨hc,d1,t1,x,hs⟩:=hs;exact ⟨hc,d1,t1,x,hs.own hW15 TAL.out hW05 hg hr⟩)
  ⟨p,y,d,t,CI0.out⟩
  (fun x a' W=>∃ Bx,w5.heap.size<=Bx/\At W Bx (stC x.1.2)/\a'={tmps:=#[ptr tb,Value.slice A N cc,Value.agg C,ptr w.heap.size,undef,ptr (w.heap.size+1),ptr (w.heap.size+2),ptr (w.heap.size+3),undef,ptr Bx,undef,undef,Value.agg C,Value.slice A N cc,Value.slice A N cc,Value.int .i64 (N:Int),Value.int .i64 (k:Int),Value.slice A k cc,Value.func (.func 225) #[] #[ptr (w.heap.size+4)],Value.int .i64 ((x.1.1:Nat):Int),Value.agg (stC x.1.2),undef,undef,undef,undef,undef,undef,undef,undef,undef,undef,undef,undef,undef,undef,undef,undef,undef,undef,undef,undef,undef,undef,undef,undef,undef,undef,undef,undef,undef,undef,undef,undef,undef,undef],defers:=[]})
  (fun x a' _ W W' row hs hg hr=>by
    obtain ⟨Bx,h1,h2,h3⟩:=hs;exact ⟨Bx,h1,g9f h2 (by simp) ⟨hg,fun k e=>(hr k e).2⟩,h3⟩)
  ?assign ?body ?done ?stop
 case assign =>
  rintro lp pre ⟨⟨i,s⟩,hx⟩ W K ⟨b,yb,d1,t1,hi⟩ hK;have bA:=Pool.g0a W (.cells (stC s) 168);have aA:=at_new W (stC s) 168;have FIN:=hid (hK _ _ ((KeepsOthers.alloc W (.cells (stC s) 168)).from _) (g4l.of_below (bA.mono hi.siz)) ⟨b,yb,d1,t1,hi.own hW15 TAL.out hW05 (World.grownBy_alloc W _ none) (fun k e=>by cases e)⟩ ⟨W.heap.size,hi.siz,aA,rfl⟩);clear bA aA hK
  gi_wp2
  exact FIN.out
 case body =>
  rintro lp pre ⟨⟨i,s⟩,hx⟩ a' W hlp ⟨rec,hrec⟩ ⟨b,yb,d1,t1,hi⟩ ⟨Bx,hBx,aX,rfl⟩ hlen;have hsl:s∈l:=List.mem_of_getElem? hx;have hwW:w.heap.size<=W.heap.size:=Nat.le_trans hW15 hi.siz;have cP:=HPUT.out _ W d1 t1 s b yb hsl hwW hi.tr (hi.rows s hsl) hi.pr (HNEW.out s hsl) (HOKS.out s hsl) hi.pn hi.ok hi.q;have eS:Value.agg (stC s)=.agg #[.int .i64 s.at_,.int .i64 s.p.kind,.slice s.y.A1 s.p.pairs.length s.y.c1,.slice s.y.A2 s.p.keys.length s.y.c2,.slice s.y.A3 s.p.kids.length s.y.c3,.slice s.y.A4 s.p.pages.length s.y.c4,.int .i64 s.p.next,.int .u64 (s.p.epoch:Int),.int .i64 s.p.root,.int .i64 s.p.depth,.int .i64 s.p.count,.int .i64 s.p.high,.int .i64 s.kid]:=rfl
  have eB:pgV b yb=.agg #[.int .i64 b.kind,.slice yb.A1 b.pairs.length yb.c1,.slice yb.A2 b.keys.length yb.c2,.slice yb.A3 b.kids.length yb.c3,.slice yb.A4 b.pages.length yb.c4,.int .i64 b.next,.int .u64 (b.epoch:Int),.int .i64 b.root,.int .i64 b.depth,.int .i64 b.count,.int .i64 b.high]:=rfl;rw [eS,eB] at cP;have z3:W.cell? ⟨w.heap.size,0,none⟩=some (ptr tb):=hi.b3.2.2 0 _ rfl;have aX':At W Bx (stC s):=aX
  have x0:W.cell? ⟨Bx,0,none⟩=some (.int .i64 s.at_):=aX'.2.2 0 _ rfl;have x1:W.cell? ⟨Bx,1,none⟩=some (.int .i64 s.p.kind):=aX'.2.2 1 _ rfl;have x2:W.cell? ⟨Bx,2,none⟩=some (.slice s.y.A1 s.p.pairs.length s.y.c1):=aX'.2.2 2 _ rfl;have x3:W.cell? ⟨Bx,3,none⟩=some (.slice s.y.A2 s.p.keys.length s.y.c2):=aX'.2.2 3 _ rfl;have x4:W.cell? ⟨Bx,4,none⟩=some (.slice s.y.A3 s.p.kids.length s.y.c3):=aX'.2.2 4 _ rfl
  have x5:W.cell? ⟨Bx,5,none⟩=some (.slice s.y.A4 s.p.pages.length s.y.c4):=aX'.2.2 5 _ rfl;have x6:W.cell? ⟨Bx,6,none⟩=some (.int .i64 s.p.next):=aX'.2.2 6 _ rfl;have x7:W.cell? ⟨Bx,7,none⟩=some (.int .u64 (s.p.epoch:Int)):=aX'.2.2 7 _ rfl;have x8:W.cell? ⟨Bx,8,none⟩=some (.int .i64 s.p.root):=aX'.2.2 8 _ rfl;have x9:W.cell? ⟨Bx,9,none⟩=some (.int .i64 s.p.depth):=aX'.2.2 9 _ rfl;have x10:W.cell? ⟨Bx,10,none⟩=some (.int .i64 s.p.count):=aX'.2.2 10 _ rfl
  have x11:W.cell? ⟨Bx,11,none⟩=some (.int .i64 s.p.high):=aX'.2.2 11 _ rfl;have x12:W.cell? ⟨Bx,12,none⟩=some (.int .i64 s.kid):=aX'.2.2 12 _ rfl;have y0:W.cell? ⟨w.heap.size+3,0,none⟩=some (.int .i64 b.kind):=hi.b7.2.2 0 _ rfl;have y1:W.cell? ⟨w.heap.size+3,1,none⟩=some (.slice yb.A1 b.pairs.length yb.c1):=hi.b7.2.2 1 _ rfl;have y2:W.cell? ⟨w.heap.size+3,2,none⟩=some (.slice yb.A2 b.keys.length yb.c2):=hi.b7.2.2 2 _ rfl
  have y3:W.cell? ⟨w.heap.size+3,3,none⟩=some (.slice yb.A3 b.kids.length yb.c3):=hi.b7.2.2 3 _ rfl;have y4:W.cell? ⟨w.heap.size+3,4,none⟩=some (.slice yb.A4 b.pages.length yb.c4):=hi.b7.2.2 4 _ rfl;have y5:W.cell? ⟨w.heap.size+3,5,none⟩=some (.int .i64 b.next):=hi.b7.2.2 5 _ rfl;have y6:W.cell? ⟨w.heap.size+3,6,none⟩=some (.int .u64 (b.epoch:Int)):=hi.b7.2.2 6 _ rfl;have y7:W.cell? ⟨w.heap.size+3,7,none⟩=some (.int .i64 b.root):=hi.b7.2.2 7 _ rfl
  have y8:W.cell? ⟨w.heap.size+3,8,none⟩=some (.int .i64 b.depth):=hi.b7.2.2 8 _ rfl;have y9:W.cell? ⟨w.heap.size+3,9,none⟩=some (.int .i64 b.count):=hi.b7.2.2 9 _ rfl;have y10:W.cell? ⟨w.heap.size+3,10,none⟩=some (.int .i64 b.high):=hi.b7.2.2 10 _ rfl;have HI:=hid hi;have AX:=hid aX';have HSL:=hid hsl;clear hi aX' aX hsl eS eB hrec
  gi_wp2_with fail
  refine ⟨trivial,(CallsIn.inRound lp (callsIn_wide.2 cP)).mono ?_⟩;rintro e w2 ⟨d2,t2,nb,ny,x,rfl,hR,H2,m2,pr2,pn2,ok2⟩;have eN:pgV nb ny=.agg #[.int .i64 nb.kind,.slice ny.A1 nb.pairs.length ny.c1,.slice ny.A2 nb.keys.length ny.c2,.slice ny.A3 nb.kids.length ny.c3,.slice ny.A4 nb.pages.length ny.c4,.int .i64 nb.next,.int .u64 (nb.epoch:Int),.int .i64 nb.root,.int .i64 nb.depth,.int .i64 nb.count,.int .i64 nb.high]:=rfl
  rw [eN];have b3:=Pool.g0a w2 (.cells (pgC nb ny) 103);have aN:=at_new w2 (pgC nb ny) 103;obtain ⟨W3,hW3⟩:∃ W3,w2.alloc (.cells (pgC nb ny) 103)=W3:=⟨_,rfl⟩;rw [hW3] at b3 aN;have hW3':w2.alloc (.cells #[.int .i64 nb.kind,.slice ny.A1 nb.pairs.length ny.c1,.slice ny.A2 nb.keys.length ny.c2,.slice ny.A3 nb.kids.length ny.c3,.slice ny.A4 nb.pages.length ny.c4,.int .i64 nb.next,.int .u64 (nb.epoch:Int),.int .i64 nb.root,.int .i64 nb.depth,.int .i64 nb.count,.int .i64 nb.high] 103)=W3:=hW3
  have hm2:=(ClM.put (show ClM l w0 w w5 B tb r dp c b yb d1 t1 W from ⟨HI.out.tr,HI.out.b7,HI.out.b3,HI.out.b6,HI.out.rows,HI.out.mod,HI.out.siz⟩) LOW.out HW1.out HNEW.out H2 m2);have HM3:=hid (hm2.below b3);have AX3:=(g0l AX.out m2 (fun e=>by have:=TAL.out _ e;omega)).below b3 (Nat.lt_of_lt_of_le (World.block_lt_of_cell? W _ x0) m2.size);have PR3:=hid (pr2.below b3);have PN2:=hid pn2;have OK2:=hid ok2
  have HR0:=hid hR;have AN:=hid aN;have KF3:=hid ((k5a m2 TAL.out).trans ((Pool.KeepsOthers.of_below' b3).from w5.heap.size));have KS3:=hid ((g4l.of_mod (S:=(w.heap.size+3) :: (w.heap.size+2) :: tall tb B) (m2.mono (fun k hk=>List.mem_cons_of_mem _ (List.mem_cons_of_mem _ hk))) HI.out.siz).trans (g4l.of_below (S:=(w.heap.size+3) :: (w.heap.size+2) :: tall tb B) (b3.mono (Nat.le_trans HI.out.siz m2.size))))
  have hszW:w.heap.size+4<W.heap.size:=by have:=HI.out.siz;omega
  clear x0 x1 x2 x3 x4 x5 x6 x7 x8 x9 x10 x11 x12 y0 y1 y2 y3 y4 y5 y6 y7 y8 y9 y10 z3 cP eN hW3 hm2 pr2 pn2 ok2 H2 m2 b3
  by_cases hx0:x=0
  ·subst hx0;have HR:=hid HR0.out;have d0:((0:Int) != 0)=false:=by simp
   have a2':=aN.2.2 2 _ rfl;have a3':=aN.2.2 3 _ rfl;have k2:W3.cell? ⟨w2.heap.size,2,none⟩=some (.slice ny.A2 nb.keys.length ny.c2):=a2';have k3:W3.cell? ⟨w2.heap.size,3,none⟩=some (.slice ny.A3 nb.kids.length ny.c3):=a3';have s3:W3.cell? ⟨Bx,3,none⟩=some (.slice s.y.A2 s.p.keys.length s.y.c2):=AX3.2.2 3 _ rfl;have s4:W3.cell? ⟨Bx,4,none⟩=some (.slice s.y.A3 s.p.kids.length s.y.c3):=AX3.2.2 4 _ rfl
   have QN:=HQN.out nb (HQ.out s HSL.out _ _ _ _ _ _ HR.out);have cE:=j9i ny.A2 s.y.A2 nb.keys.length ny.c2 s.p.keys.length s.y.c2 nb.keys s.p.keys W3 rfl rfl (by have:=QN.1;omega) PR3.out.r2 (HM3.out.rows s HSL.out).r2;have AX3':=hid AX3;clear aN a2' a3' AX3
   gi_wp2_with fail
   refine ⟨trivial,(CallsIn.inRound lp (callsIn_wide.2 cE)).mono ?_⟩;rintro e w6 ⟨res,rfl,hres,dr⟩;have DB6:=hid (g8u dr W3.heap.size);clear cE dr k2 s3;rcases res with _ | _
   ·have NEQ:=hid (show ¬ (nb.keys=s.p.keys/\nb.kids=s.p.kids) from fun h=>by have:=hres.2 h.1;cases this);have DB:=DB6
    rename World=>w4
    clear hres k3 s4 DB6;have A10:=AN.out.below DB.out AN.out.1;have hm4:=HM3.out.below DB.out;have A7:=hm4.b7;have u0:w4.cell? ⟨w2.heap.size,0,none⟩=some (.int .i64 nb.kind):=A10.2.2 0 _ rfl;have u1:w4.cell? ⟨w2.heap.size,1,none⟩=some (.slice ny.A1 nb.pairs.length ny.c1):=A10.2.2 1 _ rfl;have u2:w4.cell? ⟨w2.heap.size,2,none⟩=some (.slice ny.A2 nb.keys.length ny.c2):=A10.2.2 2 _ rfl;have u3:w4.cell? ⟨w2.heap.size,3,none⟩=some (.slice ny.A3 nb.kids.length ny.c3):=A10.2.2 3 _ rfl
    have u4:w4.cell? ⟨w2.heap.size,4,none⟩=some (.slice ny.A4 nb.pages.length ny.c4):=A10.2.2 4 _ rfl;have u5:w4.cell? ⟨w2.heap.size,5,none⟩=some (.int .i64 nb.next):=A10.2.2 5 _ rfl;have u6:w4.cell? ⟨w2.heap.size,6,none⟩=some (.int .u64 (nb.epoch:Int)):=A10.2.2 6 _ rfl;have u7:w4.cell? ⟨w2.heap.size,7,none⟩=some (.int .i64 nb.root):=A10.2.2 7 _ rfl;have u8:w4.cell? ⟨w2.heap.size,8,none⟩=some (.int .i64 nb.depth):=A10.2.2 8 _ rfl
    have u9:w4.cell? ⟨w2.heap.size,9,none⟩=some (.int .i64 nb.count):=A10.2.2 9 _ rfl;have u10:w4.cell? ⟨w2.heap.size,10,none⟩=some (.int .i64 nb.high):=A10.2.2 10 _ rfl;have v0:w4.cell? ⟨w.heap.size+3,0,none⟩=some (.int .i64 b.kind):=A7.2.2 0 _ rfl;have v1:w4.cell? ⟨w.heap.size+3,1,none⟩=some (.slice yb.A1 b.pairs.length yb.c1):=A7.2.2 1 _ rfl;have v2:w4.cell? ⟨w.heap.size+3,2,none⟩=some (.slice yb.A2 b.keys.length yb.c2):=A7.2.2 2 _ rfl
    have v3:w4.cell? ⟨w.heap.size+3,3,none⟩=some (.slice yb.A3 b.kids.length yb.c3):=A7.2.2 3 _ rfl;have v4:w4.cell? ⟨w.heap.size+3,4,none⟩=some (.slice yb.A4 b.pages.length yb.c4):=A7.2.2 4 _ rfl;have v5:w4.cell? ⟨w.heap.size+3,5,none⟩=some (.int .i64 b.next):=A7.2.2 5 _ rfl;have v6:w4.cell? ⟨w.heap.size+3,6,none⟩=some (.int .u64 (b.epoch:Int)):=A7.2.2 6 _ rfl;have v7:w4.cell? ⟨w.heap.size+3,7,none⟩=some (.int .i64 b.root):=A7.2.2 7 _ rfl
    have v8:w4.cell? ⟨w.heap.size+3,8,none⟩=some (.int .i64 b.depth):=A7.2.2 8 _ rfl;have v9:w4.cell? ⟨w.heap.size+3,9,none⟩=some (.int .i64 b.count):=A7.2.2 9 _ rfl;have v10:w4.cell? ⟨w.heap.size+3,10,none⟩=some (.int .i64 b.high):=A7.2.2 10 _ rfl;have vf:∀ j,w4.frozen? ⟨w.heap.size+3,j,none⟩=false:=A7.2.1;obtain ⟨n1,n2,n3⟩:=hm4.turn H0.out TOUT.out HROWS.out nb ny (PR3.out.below DB.out) PN2.out (by omega)
    have NEW:=hid (show KeepsFrom w5.heap.size W (w4.setCells (w.heap.size+3) 0 (pgC nb ny).toList)/\g4l w5.heap.size ((w.heap.size+3) :: (w.heap.size+2) :: tall tb B) W (w4.setCells (w.heap.size+3) 0 (pgC nb ny).toList)/\∃ b yb d1 t1,ClI PR CR Q l w0 w w5 w1.heap.size B tb r dp c p d t (List.map (fun x:{x:Nat×Stp // l[x.1]?=some x.2}=>x.1.2) (pre++[⟨(i,s),hx⟩])) b yb d1 t1 (w4.setCells (w.heap.size+3) 0 (pgC nb ny).toList) from
     ⟨((KF3.out.trans ((Pool.KeepsOthers.of_below' DB.out).from _)).trans (h0i n3 (by omega))),(KS3.out.trans ((g4l.of_below (DB.out.mono HM3.out.siz)).trans (g4l.of_mod (n3.mono (fun k hk=>by rw [List.mem_singleton] at hk;rw [hk];exact List.mem_cons_self ..)) hm4.siz))),nb,ny,d2,t2,
      {tr:=n1.tr,b7:=n1.b7,pr:=n2,pn:=PN2.out.mono (by have:=HW1.out;omega),ok:=OK2.out,q:=HQ.out s HSL.out _ _ _ _ _ _ HR.out,b3:=n1.b3,b6:=n1.b6,rows:=n1.rows,mod:=n1.mod,siz:=n1.siz,
       rest:=fun ss d' t' r' dp' x' hh=>by
        rw [List.map_append,List.append_assoc];exact HI.out.rest _ _ _ _ _ _ (.up HR.out NEQ.out hh)}⟩)
    clear hm4 A10 A7 n1 n2 n3 DB HM3 KF3 KS3 PR3
    gi_wp2
    refine ⟨trivial,?_⟩
    gi_wp2
    exact NEW.out
   ·have k3':w6.cell? ⟨w2.heap.size,3,none⟩=some (.slice ny.A3 nb.kids.length ny.c3):=(DB6.out.cell (p:=⟨w2.heap.size,3,none⟩) (World.block_lt_of_cell? W3 _ k3)).trans k3;have s4':w6.cell? ⟨Bx,4,none⟩=some (.slice s.y.A3 s.p.kids.length s.y.c3):=(DB6.out.cell (p:=⟨Bx,4,none⟩) (World.block_lt_of_cell? W3 _ s4)).trans s4;have cI:=j8d ny.A3 s.y.A3 nb.kids.length ny.c3 s.p.kids.length s.y.c3 nb.kids s.p.kids w6 rfl rfl (by have:=QN.2;omega) (PR3.out.below DB6.out).r3 ((HM3.out.below DB6.out).rows s HSL.out).r3
    have EK:=hid (hres.1 rfl);clear hres k3 s4
    gi_wp2_with fail
    refine ⟨trivial,(CallsIn.inRound lp (callsIn_wide.2 cI)).mono ?_⟩;rintro e w4 ⟨res,rfl,hres,dr⟩;have DB:=hid (DB6.out.trans ((g8u dr w6.heap.size).mono DB6.out.size));clear cI dr k3' s4' DB6;rcases res with _ | _
    ·have NEQ:=hid (show ¬ (nb.keys=s.p.keys/\nb.kids=s.p.kids) from fun h=>by have:=hres.2 h.2;cases this);clear hres;have A10:=AN.out.below DB.out AN.out.1;have hm4:=HM3.out.below DB.out;have A7:=hm4.b7;have u0:w4.cell? ⟨w2.heap.size,0,none⟩=some (.int .i64 nb.kind):=A10.2.2 0 _ rfl;have u1:w4.cell? ⟨w2.heap.size,1,none⟩=some (.slice ny.A1 nb.pairs.length ny.c1):=A10.2.2 1 _ rfl;have u2:w4.cell? ⟨w2.heap.size,2,none⟩=some (.slice ny.A2 nb.keys.length ny.c2):=A10.2.2 2 _ rfl
     have u3:w4.cell? ⟨w2.heap.size,3,none⟩=some (.slice ny.A3 nb.kids.length ny.c3):=A10.2.2 3 _ rfl;have u4:w4.cell? ⟨w2.heap.size,4,none⟩=some (.slice ny.A4 nb.pages.length ny.c4):=A10.2.2 4 _ rfl;have u5:w4.cell? ⟨w2.heap.size,5,none⟩=some (.int .i64 nb.next):=A10.2.2 5 _ rfl;have u6:w4.cell? ⟨w2.heap.size,6,none⟩=some (.int .u64 (nb.epoch:Int)):=A10.2.2 6 _ rfl;have u7:w4.cell? ⟨w2.heap.size,7,none⟩=some (.int .i64 nb.root):=A10.2.2 7 _ rfl
     have u8:w4.cell? ⟨w2.heap.size,8,none⟩=some (.int .i64 nb.depth):=A10.2.2 8 _ rfl;have u9:w4.cell? ⟨w2.heap.size,9,none⟩=some (.int .i64 nb.count):=A10.2.2 9 _ rfl;have u10:w4.cell? ⟨w2.heap.size,10,none⟩=some (.int .i64 nb.high):=A10.2.2 10 _ rfl;have v0:w4.cell? ⟨w.heap.size+3,0,none⟩=some (.int .i64 b.kind):=A7.2.2 0 _ rfl;have v1:w4.cell? ⟨w.heap.size+3,1,none⟩=some (.slice yb.A1 b.pairs.length yb.c1):=A7.2.2 1 _ rfl
     have v2:w4.cell? ⟨w.heap.size+3,2,none⟩=some (.slice yb.A2 b.keys.length yb.c2):=A7.2.2 2 _ rfl;have v3:w4.cell? ⟨w.heap.size+3,3,none⟩=some (.slice yb.A3 b.kids.length yb.c3):=A7.2.2 3 _ rfl;have v4:w4.cell? ⟨w.heap.size+3,4,none⟩=some (.slice yb.A4 b.pages.length yb.c4):=A7.2.2 4 _ rfl;have v5:w4.cell? ⟨w.heap.size+3,5,none⟩=some (.int .i64 b.next):=A7.2.2 5 _ rfl;have v6:w4.cell? ⟨w.heap.size+3,6,none⟩=some (.int .u64 (b.epoch:Int)):=A7.2.2 6 _ rfl
     have v7:w4.cell? ⟨w.heap.size+3,7,none⟩=some (.int .i64 b.root):=A7.2.2 7 _ rfl;have v8:w4.cell? ⟨w.heap.size+3,8,none⟩=some (.int .i64 b.depth):=A7.2.2 8 _ rfl;have v9:w4.cell? ⟨w.heap.size+3,9,none⟩=some (.int .i64 b.count):=A7.2.2 9 _ rfl;have v10:w4.cell? ⟨w.heap.size+3,10,none⟩=some (.int .i64 b.high):=A7.2.2 10 _ rfl;have vf:∀ j,w4.frozen? ⟨w.heap.size+3,j,none⟩=false:=A7.2.1;obtain ⟨n1,n2,n3⟩:=hm4.turn H0.out TOUT.out HROWS.out nb ny (PR3.out.below DB.out) PN2.out (by omega)
     have NEW:=hid (show KeepsFrom w5.heap.size W (w4.setCells (w.heap.size+3) 0 (pgC nb ny).toList)/\g4l w5.heap.size ((w.heap.size+3) :: (w.heap.size+2) :: tall tb B) W (w4.setCells (w.heap.size+3) 0 (pgC nb ny).toList)/\∃ b yb d1 t1,ClI PR CR Q l w0 w w5 w1.heap.size B tb r dp c p d t (List.map (fun x:{x:Nat×Stp // l[x.1]?=some x.2}=>x.1.2) (pre++[⟨(i,s),hx⟩])) b yb d1 t1 (w4.setCells (w.heap.size+3) 0 (pgC nb ny).toList) from
      ⟨((KF3.out.trans ((Pool.KeepsOthers.of_below' DB.out).from _)).trans (h0i n3 (by omega))),(KS3.out.trans ((g4l.of_below (DB.out.mono HM3.out.siz)).trans (g4l.of_mod (n3.mono (fun k hk=>by rw [List.mem_singleton] at hk;rw [hk];exact List.mem_cons_self ..)) hm4.siz))),nb,ny,d2,t2,
       {tr:=n1.tr,b7:=n1.b7,pr:=n2,pn:=PN2.out.mono (by have:=HW1.out;omega),ok:=OK2.out,q:=HQ.out s HSL.out _ _ _ _ _ _ HR.out,b3:=n1.b3,b6:=n1.b6,rows:=n1.rows,mod:=n1.mod,siz:=n1.siz,
        rest:=fun ss d' t' r' dp' x' hh=>by
         rw [List.map_append,List.append_assoc];exact HI.out.rest _ _ _ _ _ _ (.up HR.out NEQ.out hh)}⟩)
     clear hm4 A10 A7 n1 n2 n3 DB HM3 KF3 KS3 PR3
     gi_wp2
     exact NEW.out
    ·have EI:=hid (hres.1 rfl);have hm4:=HM3.out.below DB.out;clear hres;have z6:w4.cell? ⟨w.heap.size+2,0,none⟩=some (.int .i64 0):=hm4.b6.2.2 0 _ rfl;have zf:w4.frozen? ⟨w.heap.size+2,0,none⟩=false:=hm4.b6.2.1 0;obtain ⟨n1,n2,n3,n4⟩:=hm4.tell H0.out TOUT.out 0;have FIN:=hid (show KeepsFrom w5.heap.size W (w4.setCell ⟨w.heap.size+2,0,none⟩ (.int .i64 0))/\Code.ret=Code.ret/\∃ d1 t1 x9,ClX PR CR w0 w w5 B tb r dp c p d t (List.map (fun x:{x:Nat×Stp // l[x.1]?=some x.2}=>x.1.2) (pre++[⟨(i,s),hx⟩])) d1 t1 x9 (w4.setCell ⟨w.heap.size+2,0,none⟩ (.int .i64 0)) from
      ⟨((KF3.out.trans ((Pool.KeepsOthers.of_below' DB.out).from _)).trans (h0i n4 (by omega))),rfl,d2,t2,0,⟨n1,fun ss=>by
       rw [List.map_append,List.append_assoc];exact HI.out.rest _ _ _ _ _ _ (.same HR.out EK.out EI.out),n2,n3,Nat.le_trans hm4.siz n4.size⟩⟩)
     clear hm4 n1 n2 n3 n4 DB HM3 KF3 KS3 PR3
     gi_wp2
     exact ⟨FIN.out.1,rfl,FIN.out.2.2⟩
  ·have d0:(x != 0)=true:=by simp [hx0]
   have DB:=hid (Below.refl W3.heap.size W3);have hm4:=HM3.out;have HX0:=hid hx0;clear hx0;have z6:W3.cell? ⟨w.heap.size+2,0,none⟩=some (.int .i64 0):=hm4.b6.2.2 0 _ rfl;have zf:W3.frozen? ⟨w.heap.size+2,0,none⟩=false:=hm4.b6.2.1 0;obtain ⟨n1,n2,n3,n4⟩:=hm4.tell H0.out TOUT.out x;have FIN:=hid (show KeepsFrom w5.heap.size W (W3.setCell ⟨w.heap.size+2,0,none⟩ (.int .i64 x))/\Code.ret=Code.ret/\∃ d1 t1 x9,ClX PR CR w0 w w5 B tb r dp c p d t (List.map (fun x:{x:Nat×Stp // l[x.1]?=some x.2}=>x.1.2) (pre++[⟨(i,s),hx⟩])) d1 t1 x9 (W3.setCell ⟨w.heap.size+2,0,none⟩ (.int .i64 x)) from
    ⟨((KF3.out.trans ((Pool.KeepsOthers.of_below' DB.out).from _)).trans (h0i n4 (by omega))),rfl,d2,t2,x,⟨n1,fun ss=>by
     rw [List.map_append,List.append_assoc];exact HI.out.rest _ _ _ _ _ _ (.err HR0.out HX0.out),n2,n3,Nat.le_trans hm4.siz n4.size⟩⟩)
   clear hm4 n1 n2 n3 n4 DB HM3 KF3 KS3 PR3
   gi_wp2
   exact ⟨FIN.out.1,rfl,FIN.out.2.2⟩
 case done =>
  rintro D ys W hD hys ⟨b,yb,d1,t1,hi⟩ hK;have eA:=HEA.out;subst eA;have bD:Below W.heap.size W W.drew:=(Below.refl _ _).drew;have cC:=HCR.out [w.heap.size+3,w.heap.size+2] W.drew d1 t1 b yb (Nat.le_trans hW15 hi.siz) (hi.tr.quiet bD) (hi.pr.below bD) hi.pn hi.ok hi.q;have eB:pgV b yb=.agg #[.int .i64 b.kind,.slice yb.A1 b.pairs.length yb.c1,.slice yb.A2 b.keys.length yb.c2,.slice yb.A3 b.kids.length yb.c3,.slice yb.A4 b.pages.length yb.c4,.int .i64 b.next,.int .u64 (b.epoch:Int),.int .i64 b.root,.int .i64 b.depth,.int .i64 b.count,.int .i64 b.high]:=rfl
  rw [eB] at cC;have HKS:=hid (show ∀ w':World,Mod ((w.heap.size+2) :: tall tb B) W w'->w'.cell? ⟨w.heap.size,0,none⟩=some (ptr tb)/\w'.cell? ⟨g,o,none⟩=some (.int .i64 a0)/\w'.cell? ⟨w.heap.size+3,0,none⟩=some (.int .i64 b.kind)/\w'.cell? ⟨w.heap.size+3,1,none⟩=some (.slice yb.A1 b.pairs.length yb.c1)/\w'.cell? ⟨w.heap.size+3,2,none⟩=some (.slice yb.A2 b.keys.length yb.c2)/\w'.cell? ⟨w.heap.size+3,3,none⟩=some (.slice yb.A3 b.kids.length yb.c3)/\w'.cell? ⟨w.heap.size+3,4,none⟩=some (.slice yb.A4 b.pages.length yb.c4)/\w'.cell? ⟨w.heap.size+3,5,none⟩=some (.int .i64 b.next)/\w'.cell? ⟨w.heap.size+3,6,none⟩=some (.int .u64 (b.epoch:Int))/\w'.cell? ⟨w.heap.size+3,7,none⟩=some (.int .i64 b.root)/\w'.cell? ⟨w.heap.size+3,8,none⟩=some (.int .i64 b.depth)/\w'.cell? ⟨w.heap.size+3,9,none⟩=some (.int .i64 b.count)/\w'.cell? ⟨w.heap.size+3,10,none⟩=some (.int .i64 b.high) from fun w' hm=>by
   have no:∀ k,w.heap.size<=k->k≠w.heap.size+2->k∉(w.heap.size+2) :: tall tb B:=fun k hk hne e=>by
    rcases List.mem_cons.1 e with e | e
    ·exact hne e
    ·have:=TOUT.out _ e;omega
   have g7:=g0l hi.b7 hm (no _ (by omega) (by omega));have hg:W.cell? ⟨g,o,none⟩=some (.int .i64 a0):=by
    have h1:=hi.mod.cell (p:=⟨g,o,none⟩) HAT.out.1 HAT.out.2.1;have h2:=BW5.out.cell (p:=⟨g,o,none⟩) HAT.out.1;exact h1.trans (h2.symm.trans HAT.out.2.2)
   have hgn:g∉(w.heap.size+2) :: tall tb B:=fun e=>by
    rcases List.mem_cons.1 e with e | e
    ·have:=HAT.out.1;omega
    ·exact HAT.out.2.1 e
   exact ⟨(g0l hi.b3 hm (no _ (by omega) (by omega))).2.2 0 _ rfl,(hm.cell (p:=⟨g,o,none⟩) (Nat.lt_of_lt_of_le HAT.out.1 hi.mod.size) hgn).trans hg,g7.2.2 0 _ rfl,g7.2.2 1 _ rfl,g7.2.2 2 _ rfl,g7.2.2 3 _ rfl,g7.2.2 4 _ rfl,g7.2.2 5 _ rfl,g7.2.2 6 _ rfl,g7.2.2 7 _ rfl,g7.2.2 8 _ rfl,g7.2.2 9 _ rfl,g7.2.2 10 _ rfl⟩)
  have K0:=hid (HKS.out W.drew (Mod.of_below _ bD));have hNpos:(0:Int)<(N:Int):=by omega
  have hNpos2:0<N:=by omega
  have MD:=hid (Mod.of_below (tall tb B) bD);have HI:=hid hi;have HKD:=hid hK;have HYS:=hid hys;have HDD:=hid hD;have no6:=hid (show w.heap.size+2∉tall tb B from fun e=>by have:=TOUT.out _ e;omega);clear hi hK hys bD eB hD;go_wp2_with fail
  go_region_held3 (fun w'=>w'.cell? ⟨w.heap.size,0,none⟩=some (ptr tb)/\w'.cell? ⟨g,o,none⟩=some (.int .i64 a0)/\w'.cell? ⟨w.heap.size+3,0,none⟩=some (.int .i64 b.kind)/\w'.cell? ⟨w.heap.size+3,1,none⟩=some (.slice yb.A1 b.pairs.length yb.c1)/\w'.cell? ⟨w.heap.size+3,2,none⟩=some (.slice yb.A2 b.keys.length yb.c2)/\w'.cell? ⟨w.heap.size+3,3,none⟩=some (.slice yb.A3 b.kids.length yb.c3)/\w'.cell? ⟨w.heap.size+3,4,none⟩=some (.slice yb.A4 b.pages.length yb.c4)/\w'.cell? ⟨w.heap.size+3,5,none⟩=some (.int .i64 b.next)/\w'.cell? ⟨w.heap.size+3,6,none⟩=some (.int .u64 (b.epoch:Int))/\w'.cell? ⟨w.heap.size+3,7,none⟩=some (.int .i64 b.root)/\w'.cell? ⟨w.heap.size+3,8,none⟩=some (.int .i64 b.depth)/\w'.cell? ⟨w.heap.size+3,9,none⟩=some (.int .i64 b.count)/\w'.cell? ⟨w.heap.size+3,10,none⟩=some (.int .i64 b.high))
   (with_reducible (first | exact K0.out | exact K1.out | exact K2.out))
   (first
     | (go_at_call 185;(with_reducible refine cC.mono ?_);rintro e w7 ⟨d7,t7,r7,dp7,x7,rfl,hR7,H7,m7⟩
        have M7:=MD.out.trans m7;have A7:=g0l HI.out.b6 M7 no6.out;have z6:w7.cell? ⟨w.heap.size+2,0,none⟩=some (.int .i64 0):=A7.2.2 0 _ rfl;have zf:w7.frozen? ⟨w.heap.size+2,0,none⟩=false:=A7.2.1 0;have M7':=M7.mono (T:=(w.heap.size+2) :: tall tb B) (fun k hk=>List.mem_cons_of_mem _ hk);have M8:=M7'.trans ((g0z w7 (w.heap.size+2) 0 (.int .i64 x7)).mono (T:=(w.heap.size+2) :: tall tb B) (fun k hk=>by rw [List.mem_singleton] at hk;rw [hk];exact List.mem_cons_self ..))
        have K1:=hid (HKS.out w7 M7');have K2:=hid (HKS.out _ M8);have hK8:=hid ((M8.block D (Array.getElem?_eq_some_iff.1 HKD.out).1 (fun e=>by
         rcases List.mem_cons.1 e with e | e
         ·have:=HDD.out;omega
         ·have:=TAL.out _ e;have:=HDD.out;omega)).trans HKD.out)
        have T8:=H7.touch (x:=w.heap.size+2) (by simp) no6.out (by have:=H0.out;omega) (g0z w7 (w.heap.size+2) 0 (.int .i64 x7));have HE:=hid (h6y T8 (at_set A7 0 (.int .i64 x7)) ((HI.out.mod.trans M7).setCell ⟨w.heap.size+2,0,none⟩ (.int .i64 x7) (.inr (by simp))) MEM.out HDD.out TAL.out hW05 hW15 hK8.out);have HCD:=hid (show g4w PR CR r dp l.reverse p d t d7 t7 r7 dp7 x7 from by
         have h1:=HI.out.rest [] _ _ _ _ _ (.top hR7);rw [List.append_nil,HYS.out] at h1;exact h1)
        clear hR7 H7 m7 M7 A7 M7' M8 T8))
  go_wp2_with fail
  refine ⟨by simp,.inl ⟨_,_,rfl,run_takeDeferred hK8.out,?_⟩⟩;exact ⟨_,g4o rfl rfl (k5f HE.out.2.1),d7,t7,r7,dp7,x7,rfl,HCD.out,HE.out.1,HE.out.2.2⟩
 case stop =>
  rintro D cd pre W hD ⟨ss,hss⟩ ⟨rfl,d1,t1,x,hx⟩ hK;have HE:=hid (h6y hx.tr hx.b6 hx.mod MEM.out hD TAL.out hW05 hW15 hK);have HCD:=hid (show g4w PR CR r dp l.reverse p d t d1 t1 r dp x from by
   have h1:=hx.rest ss;rw [hss] at h1;exact h1)
  clear hx
  gi_wp2
  refine ⟨by simp,.inl ⟨_,_,rfl,run_takeDeferred hK,?_⟩⟩;exact ⟨_,g4o rfl rfl (k5f HE.out.2.1),d1,t1,r,dp,x,rfl,HCD.out,HE.out.1,HE.out.2.2⟩
open Go.RowKit Gen
open Page (Pg Lay PgOk g0c pgC pgV Enc g0v BytesAt strV strB PRow less g1l Lt)
def WayP (d:St) (key:Disk.Bs) (r:Int) (dp:Nat) (l:List Stp) (s:Stp):Prop:=Down d key r l s.at_/\l.length+1=dp/\PgAt d s.at_ 1 s.p/\s.kid=0
def WayQ (d:St) (key:Disk.Bs) (r:Int) (dp:Nat) (x:Int):Prop:=∃ l a,Down d key r l a/\l.length<dp/\(d.readE a=0->∀ p,g0v a (d.readB a) p->p.kind≠(if l.length+1=dp then 1 else 2))/\x=g6y d a
def NilP (l:List Stp) (s:Stp):Prop:=l=[]/\s=⟨0,h5z,{},0⟩
theorem p2q {d:St} {key:Disk.Bs} {r:Int} {m:Nat} (hm:m<=40) {w:World} {e:Ending} {w':World} (h:WayR d key r (m+1) w e w'):j2x (WayP d key r (m+1)) (WayQ d key r (m+1)) w e w':=by
 obtain ⟨b,⟨l,a,p,y,v,h1,h2,h3,rfl,h5⟩ | ⟨l,a,h1,h2,h3,rfl⟩⟩:=h
 ·exact ⟨b,.inl ⟨l,⟨a,p,y,0⟩,v,⟨h1,h2,h3,rfl⟩,by omega,rfl,h5⟩⟩
 ·exact ⟨b,.inr ⟨g6y d a,⟨l,a,h1,h2,h3,rfl⟩,h0d d a,rfl⟩⟩
theorem h1s {w:World} {B:Blk} {d:St} {t:T} {a:Lys} (h:Sto w B d t a) {tb:Nat} {r c:Int} {m:Nat} (hm:m<=40) (hT:At w tb (trC B.ss r ((m+1:Nat):Int) c)) (key:Disk.Bs) :
 Calls Tryz.prog 97 #[ptr tb,strV key] w (j2x (WayP d key r (m+1)) (WayQ d key r (m+1)) w) :=
 (p0v h hm hT key).mono (fun _ _ h=>p2q hm h)
theorem j2t {w:World} {tb ss:Nat} {r c:Int} (hT:At w tb (trC ss r 0 c)) (key:Disk.Bs) :
 Calls Tryz.prog 97 #[ptr tb,strV key] w (j2x NilP (fun _=>False) w) :=
 (k3v hT key).mono (fun _ _ ⟨v,h1,h2,h3⟩=>⟨h3,.inl ⟨[],_,v,⟨rfl,rfl⟩,Nat.zero_le _,h1,h2⟩⟩)
theorem g5i {d:St} {key:Disk.Bs} {r:Int} {dp:Nat} {l:List Stp} {s:Stp} (h:WayP d key r dp l s):g1l Lt (keysOf s.p.pairs)/\s.p.pairs.length<=6:=by
 have:=(Page.h6f h.2.2.1.2.2).1 (g2l h.2.2.1);exact ⟨this.1.rises,this.1.len.2⟩
theorem h4o {l:List Stp} {s:Stp} (h:NilP l s):g1l Lt (keysOf s.p.pairs)/\s.p.pairs.length<=6:=by
 obtain ⟨-,rfl⟩:=h;exact ⟨fun j hj=>by simp at hj,Nat.zero_le _⟩
open Page (Pg Lay PgOk g0c pgC pgV Enc g0v BytesAt strV strB PRow less OwnP g1l Lt)
def CutD (P:List Stp->Stp->Prop) (Q:Int->Prop) (RC:List Stp->Stp->List (Disk.Bs×Disk.Bs)->St->T->Int->Int->Int->Prop) (key:Disk.Bs) (d:St) (t:T) (r dp c:Int) (d':St) (t':T) (r' dp' c' x:Int) (had:Bool):Prop :=
 (∃ l s,P l s/\cutP s.p.pairs key=s.p.pairs/\x=0/\d'=d/\t'=t/\r'=r/\dp'=dp/\c'=c/\had=g2j (keysOf s.p.pairs) key) \/
 (∃ l s,P l s/\cutP s.p.pairs key≠s.p.pairs/\RC l s (cutP s.p.pairs key) d' t' r' dp' x/\(c'=if x=0 then c+(((cutP s.p.pairs key).length:Int)-(s.p.pairs.length:Int)) else c)/\had=g2j (keysOf s.p.pairs) key) \/
 (Q x/\x≠0/\d'=d/\t'=t/\r'=r/\dp'=dp/\c'=c/\had=false)
theorem h2m {w0 w:World} {B:Blk} {tb:Nat} {d:St} {t:T} {r dp c:Int} (h:TrOn w0 w B tb d t r dp c) (key:Disk.Bs) {kb bb:Nat} (hkb:w.cell? ⟨kb,0,none⟩=some (strV key)) (hbb:At w bb #[.bool false]) (hnb:bb∉tall tb B) (hxb:bb∈B.xs) (h0b:w0.heap.size<=bb) (hcb:0<=c/\c<=1000000)
 {P:List Stp->Stp->Prop} {Q:Int->Prop} {RC:List Stp->Stp->List (Disk.Bs×Disk.Bs)->St->T->Int->Int->Int->Prop} (hP:∀ l s,P l s->g1l Lt (keysOf s.p.pairs)/\s.p.pairs.length<=900)
 (hw:Calls Tryz.prog 97 #[ptr tb,strV key] w (j2x P Q w))
 (hcl:∀ W v l s np y,w.heap.size<=W.heap.size->P l s->np=cutP s.p.pairs key->Way w W v (l++[s])->g0c W (g0j np) y->Page.New (g0j np) y w.heap.size->np.length<=1000->TrOn w0 W B tb d t r dp c->Calls Tryz.prog 141 #[ptr tb,v,pgV (g0j np) y] W (g8h (RC l s np) w0 B tb c W)) :
 Calls Tryz.prog 93 #[ptr tb,strV key,.func (.func 98) #[] #[ptr kb,ptr bb]] w (j4u (CutD P Q RC key d t r dp c) w0 B tb bb w):=by
 have H:=hid h;have HP:=hid hP;have HCL:=hid hcl;have HKB:=hid (show kb<w.heap.size/\w.cell? ⟨kb,0,none⟩=some (strV key) from ⟨World.block_lt_of_cell? w _ hkb,hkb⟩);have HBB:=hid hbb;have NBB:=hid hnb;have XBB:=hid hxb;have OBB:=hid h0b;obtain ⟨kv,hkv⟩:∃ kv,strV key=kv:=⟨_,rfl⟩;rw [hkv] at hw;rw [hkv];clear hkv h hP hcl hkb hbb hnb hxb h0b;go_enter Tryz.func93,Tryz.ntmps93
 go_wp2_with fail
 refine hw.mono ?_;rintro e w2 ⟨b2,⟨l,s,v,hp,hl,rfl,WY⟩ | ⟨x,hq,hx,rfl⟩⟩
 rotate_left
 ·have d1:(x != 0)=true:=by simp [hx]
  have FIN:=hid (show j4u (CutD P Q RC key d t r dp c) w0 B tb bb w (.returned (numV x)) w2 from ⟨d,t,r,dp,c,x,false,rfl,.inr (.inr ⟨hq,hx,rfl,rfl,rfl,rfl,rfl,rfl⟩),H.out.quiet b2,HBB.out.below b2 HBB.out.1,Mod.of_below _ b2⟩);clear hw hq hx b2;go_wp2_with fail
  go_ret
  exact FIN.out
 ·obtain ⟨g,o,cc,hv,hcc,hg,hcl⟩:=h9p WY;have hps:=HP.out l s hp;have hmem:s∈l++[s]:=by simp
  have HN:=WY.new s hmem;have cS:=k6q (WY.rows s hmem) (WY.ok s hmem) HN hps.1 (by omega) ((b2.cell (p:=⟨kb,0,none⟩) HKB.out.1).trans HKB.out.2) (HBB.out.below b2 HBB.out.1) HBB.out.1;have x3:=hcl 2 _ rfl;have HW:=hid WY;have B2:=hid b2;subst hv;obtain ⟨k,hk⟩:∃ k,l.length=k:=⟨_,rfl⟩;rw [hk] at x3 hl;have hw1:IntKind.i64.wrap (((k+1:Nat):Int)-1)=(k:Int):=by rw [IntWalk.i64_in _ (by omega)];omega
  obtain ⟨N,hN⟩:∃ N,k+1=N:=⟨_,rfl⟩;have hkN:(k:Int)<(N:Int):=by omega
  rw [hN] at hw1;have HWV:Hid (Way w w2 (.slice (some ⟨g,o,none⟩) N cc) (l++[s])):=hid (by rw [<- hN,<- hk];exact HW.out);rw [hk,hN];have HL:=hid hps.2;have HPP:=hid hp;clear hN hk hcl hcc hg hl WY hmem hps HN b2 hw hp HW;go_wp2_with fail
  refine cS.mono ?_;rintro e w3 ⟨nv,rfl,ho,hb3,b3⟩;obtain ⟨A,c1,e0,hR,hge,hcz,hcl1⟩:=Page.h2e ho;subst e0;have HLN:=g9x s.p.pairs key;obtain ⟨np,hnp⟩:∃ np,cutP s.p.pairs key=np:=⟨_,rfl⟩;have HNP:=hid hnp;rw [hnp] at hR hcl1 HLN;rw [hnp];have PR:=hid (show g0c w3 (g0j np) {A1:=A,c1:=c1} from ⟨hR,fun h=>absurd rfl h,fun h=>absurd rfl h,fun h=>absurd rfl h⟩);have PN:=hid (show Page.New (g0j np) {A1:=A,c1:=c1} w.heap.size from ⟨fun x e=>Nat.le_trans B2.out.size (hge x e),fun _ e=>(by cases e),fun _ e=>(by cases e),fun _ e=>(by cases e),fun _=>rfl,hcl1,Nat.zero_le _,Nat.zero_le _,Nat.zero_le _,hcz,fun _=>rfl,fun _=>rfl⟩)
  have HW3:=hid (HWV.out.touch b3 HBB.out.1);have H3:=hid ((H.out.quiet B2.out).touch XBB.out NBB.out OBB.out b3);have HB3:=hid hb3;have B3:=hid ((Mod.of_below [bb] B2.out).trans b3);have cE:=h0u A s.y.A1 np.length c1 s.p.pairs.length s.y.c1 np s.p.pairs w3 rfl rfl (by have:=HL.out;omega) hR ((HW3.out.rows s (by simp)).r1);have HLL:=hid (show np.length<=1000 from by have:=HL.out;omega);have hn1:IntKind.i64.wrap ((np.length:Int)-(s.p.pairs.length:Int))=(np.length:Int)-(s.p.pairs.length:Int):=IntWalk.i64_in _ (by have:=HL.out;omega)
  have hn2:IntKind.i64.wrap (c+((np.length:Int)-(s.p.pairs.length:Int)))=c+((np.length:Int)-(s.p.pairs.length:Int)):=IntWalk.i64_in _ (by have:=HL.out;omega);obtain ⟨n,hn⟩:∃ n,np.length=n:=⟨_,rfl⟩;obtain ⟨m,hm⟩:∃ m,s.p.pairs.length=m:=⟨_,rfl⟩;have HN:=hid hn;have HM:=hid hm;rw [hn,hm] at cE hn1 hn2;rw [hn,hm];clear hn hm hR hge hcz hcl1 ho b3 hb3 cS HLN hnp HWV x3;go_wp2_with fail
  refine cE.mono ?_;rintro e w4 ⟨res,rfl,hres,dr⟩;have db:=g8u dr w3.heap.size;have B4:=hid (B3.out.trans (Mod.of_below [bb] db));have PR4:=hid (PR.out.below db);have HW4:=hid (HW3.out.below db);have H4:=hid (H3.out.quiet db);have HB4:=hid (HB3.out.below db HB3.out.1);have M4:=hid (show Mod (bb :: tall tb B) w w4 from B4.out.mono (fun y hy=>by rw [List.mem_singleton] at hy;rw [hy];exact List.mem_cons_self ..))
  clear dr db cE;rcases res with _ | _
  rotate_left
  ·have EQ:=hid (show cutP s.p.pairs key=s.p.pairs from HNP.out.trans (hres.1 rfl));clear hres;go_wp2_with fail
   go_ret
   exact ⟨d,t,r,dp,c,0,_,rfl,.inl ⟨l,s,HPP.out,EQ.out,rfl,rfl,rfl,rfl,rfl,rfl,rfl⟩,H4.out,HB4.out,M4.out⟩
  ·have NE:=hid (show cutP s.p.pairs key≠s.p.pairs from fun e=>by have:=hres.2 (HNP.out.symm.trans e);cases this);have cC:Calls Tryz.prog 141 #[ptr tb,.slice (some ⟨g,o,none⟩) N cc,.agg #[.int .i64 1,.slice A n c1,.slice none 0 0,.slice none 0 0,.slice none 0 0,.int .i64 0,.int .u64 0,.int .i64 0,.int .i64 0,.int .i64 0,.int .i64 0]] w4 (g8h (RC l s np) w0 B tb c w4):=by
    have e:pgV (g0j np) {A1:=A,c1:=c1}=.agg #[.int .i64 1,.slice A n c1,.slice none 0 0,.slice none 0 0,.slice none 0 0,.int .i64 0,.int .u64 0,.int .i64 0,.int .i64 0,.int .i64 0,.int .i64 0]:=by rw [<- HN.out];rfl
    have q:=HCL.out w4 _ l s np _ B4.out.size HPP.out HNP.out.symm HW4.out PR4.out PN.out HLL.out H4.out;rw [e] at q;exact q
   clear hres;go_wp2_with fail
   refine cC.mono ?_;rintro e w5 ⟨d5,t5,r5,dp5,x,rfl,hRC,H5,m5⟩;have H5H:=hid H5;have M5:=hid (M4.out.trans (m5.mono (fun y hy=>List.mem_cons_of_mem _ hy)));have HB5:=hid (g0l HB4.out m5 NBB.out);have HRC:=hid hRC
   by_cases hx:x=0
   ·subst hx;have k3:w5.cell? ⟨tb,3,none⟩=some (.int .i64 c):=H5.box.2.2 3 _ rfl;have f3:w5.frozen? ⟨tb,3,none⟩=false:=H5.box.2.1 3;have D6:At (w5.setCell ⟨tb,3,none⟩ (.int .i64 (c+((n:Int)-(m:Int))))) tb (trC B.ss r5 dp5 (c+((n:Int)-(m:Int)))):=at_set H5.box 3 _;have H6:=hid (H5.cells D6 (g0z _ _ _ _));have M6:=hid (M5.out.trans ((g0z w5 tb 3 (.int .i64 (c+((n:Int)-(m:Int))))).mono (fun x hx=>by rw [List.mem_singleton] at hx;rw [hx];simp)))
    have HB6:=hid (g0l HB5.out (g0z w5 tb 3 (.int .i64 (c+((n:Int)-(m:Int))))) (fun e=>by rw [List.mem_singleton] at e;exact NBB.out (by rw [e];exact List.mem_cons_self ..)));have CD:=hid (show CutD P Q RC key d t r dp c d5 t5 r5 dp5 (c+((n:Int)-(m:Int))) 0 (g2j (keysOf s.p.pairs) key) from .inr (.inl ⟨l,s,HPP.out,NE.out,by show RC l s (cutP s.p.pairs key) _ _ _ _ _;rw [HNP.out];exact HRC.out,by show _=if (0:Int)=0 then c+(((cutP s.p.pairs key).length:Int) - _) else c;rw [if_pos rfl,HNP.out,HN.out,HM.out],rfl⟩))
    clear cC H5 m5 hRC D6;go_wp2_with fail
    go_ret
    exact ⟨d5,t5,r5,dp5,_,0,_,rfl,CD.out,H6.out,HB6.out,M6.out⟩
   ·have d1:(x != 0)=true:=by simp [hx]
    have CD:=hid (show CutD P Q RC key d t r dp c d5 t5 r5 dp5 c x (g2j (keysOf s.p.pairs) key) from .inr (.inl ⟨l,s,HPP.out,NE.out,by show RC l s (cutP s.p.pairs key) _ _ _ _ _;rw [HNP.out];exact HRC.out,by rw [if_neg hx],rfl⟩));clear cC H5 m5 hRC hx;go_wp2_with fail
    go_ret
    exact ⟨d5,t5,r5,dp5,c,x,_,rfl,CD.out,H5H.out,HB5.out,M5.out⟩
end Go.Proofs.YtglejnkoojpelaaGreat.Tree

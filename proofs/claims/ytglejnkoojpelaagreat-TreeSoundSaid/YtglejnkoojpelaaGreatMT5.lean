import Derived.Test.YtglejnkoojpelaaGreatMT4
set_option maxRecDepth 100000
set_option maxHeartbeats 32000000
namespace Go.Proofs.YtglejnkoojpelaaGreat.Tree
open Go.RowKit Gen
open Disk (St Dev Mod ptr)
open Page (Pg Lay PgOk g0c pgC pgV Enc g0v BytesAt strV strB PRow SRow IRow less)
open Pool (Po NAt PoAt La poC poV numV At g0k g1g g1k g2m g0g OwnI chunks layAll May)
open Store
open Lib (hid)
def midP (p:Pg):Nat:=if p.kind=1 then (p.pairs.length+1) / 2 else p.keys.length / 2
def g3d (p:Pg):Pg:=if p.kind=1 then {kind:=1,pairs:=p.pairs.take (midP p)} else {kind:=p.kind,keys:=p.keys.take (midP p),kids:=p.kids.take (midP p+1)}
def g1t (p:Pg):Pg:=if p.kind=1 then {kind:=1,pairs:=p.pairs.drop (midP p)} else {kind:=p.kind,keys:=p.keys.drop (midP p+1),kids:=p.kids.drop (midP p+1)}
def midK (p:Pg):Disk.Bs:=if p.kind=1 then (p.pairs[midP p]?.map (·.1)).getD [] else p.keys[midP p]?.getD []
def g4h (p:Pg):List Pg:=if g1j p<g0o p then [g3d p,g1t p] else [p]
def g6m (p:Pg):List Disk.Bs:=if g1j p<g0o p then [midK p] else []
inductive h2n (m:Nat):T->List Int->T->List Int->Int->Prop
 | done {t os}:os.length<=m->h2n m t os t os 0
 | fail {t os x}:m<os.length->(g1n t (os[os.length-1]?.getD 0)).2=x->x≠0->h2n m t os (g1n t (os[os.length-1]?.getD 0)).1 os x
 | step {t os t' os' x}:m<os.length->(g1n t (os[os.length-1]?.getD 0)).2=0->h2n m (g1n t (os[os.length-1]?.getD 0)).1 (os.take (os.length-1)) t' os' x->h2n m t os t' os' x
inductive Lays (ps:List Pg) (os:List Int):St->T->Nat->List Int->St->T->List Int->Int->Prop
 | done {d t k ns}:ps.length<=k->Lays ps os d t k ns d t ns 0
 | fail {d t k ns p d' t' n x}:ps[k]?=some p->LayR d t (os[k]?.getD 0) p d' t' n x->x≠0->Lays ps os d t k ns d' t' [] x
 | step {d t k ns p d1 t1 n d' t' ns' x}:ps[k]?=some p->LayR d t (os[k]?.getD 0) p d1 t1 n 0->Lays ps os d1 t1 (k+1) (ns++[n]) d' t' ns' x->Lays ps os d t k ns d' t' ns' x
def g2n (d:St) (t:T) (p:Pg) (os:List Int) (d':St) (t':T) (ks:List Disk.Bs) (ns:List Int) (x:Int):Prop:=∃ t1 os1 x1,h2n (g4h p).length t os t1 os1 x1 /\
 ((x1≠0/\d'=d/\t'=t1/\ks=[]/\ns=[]/\x=x1)\/(x1=0/\Lays (g4h p) os1 d t1 0 [] d' t' ns x/\ks=if x=0 then g6m p else []))
def g5e (R:St->T->List Disk.Bs->List Int->Int->Prop) (w0:World) (B:Blk) (tb:Nat) (r dp c:Int) (w:World) (e:Ending) (w':World):Prop:=∃ d' t' ks ns x kv nv,e=.returned (.tuple #[kv,nv,numV x])/\R d' t' ks ns x/\TrOn w0 w' B tb d' t' r dp c/\Mod (tall tb B) w w'/\TreeS.Ow w' w.heap.size kv ks/\TreeI.Ow w' w.heap.size nv ns
structure j4y (w:World) (b:Nat) (S:List Nat) (xs:List (Pg×Lay)):Prop where
 lt:b<w.heap.size
 at_:At w b (xs.flatMap fun x=>(pgC x.1 x.2).toList).toArray
 rows:∀ x∈xs,g0c w x.1 x.2
 ok:∀ x∈xs,PgOk x.1
 ap:∀ x∈xs,Apart S x.1 x.2
 off:b∉S
theorem j4y.mod {w w':World} {b:Nat} {S:List Nat} {xs:List (Pg×Lay)} (h:j4y w b S xs) (m:Mod S w w'):j4y w' b S xs :=
 ⟨Nat.lt_of_lt_of_le h.lt m.size,g0l h.at_ m h.off,fun x hx=>g4f (h.rows x hx) m (h.ap x hx),h.ok,h.ap,h.off⟩
theorem j4y.load {w:World} {b:Nat} {S:List Nat} {xs:List (Pg×Lay)} (h:j4y w b S xs) (k:Nat) {p:Pg} {y:Lay} (hk:xs[k]?=some (p,y)):(Instr.loadAt 103 (.pointer (some ⟨b,k*11,none⟩))).run Tryz.prog w=.ok (pgV p y) w:=by
 refine g1c h.at_ p y ?_;have key:∀ (xs:List (Pg×Lay)) (k:Nat),xs[k]?=some (p,y)->((xs.flatMap fun x=>(pgC x.1 x.2).toList).drop (k*11)).take 11=(pgC p y).toList:=by
  intro xs
  induction xs with
  | nil=>intro k hk;simp at hk
  | cons x xs ih =>
   intro k hk;cases k with
   | zero =>
    simp only [List.getElem?_cons_zero,Option.some.injEq] at hk;subst hk;rw [List.flatMap_cons,Nat.zero_mul,List.drop_zero]
    rfl
   | succ k =>
    rw [List.getElem?_cons_succ] at hk;rw [List.flatMap_cons,List.drop_append,List.drop_eq_nil_of_le (by simp;omega),List.nil_append];have:(k+1)*11-(pgC x.1 x.2).toList.length=k*11:=by simp;omega
    rw [this];exact ih k hk
 simpa using key xs k hk
def lenV:Value->Nat
 | .slice _ n _=>n
 | _=>0
structure k7q (d:St) (t0:T) (os:List Int) (m:Nat) (w0 W:World) (B:Blk) (tb:Nat) (r dp c:Int) (k:Nat) (t:T) (wr:World):Prop where
 le:k<=os.length
 tr:TrOn w0 wr B tb d t r dp c
 mod:Mod (tall tb B) W wr
 rest:∀ t' os' x,h2n m t (os.take k) t' os' x->h2n m t0 os t' os' x
structure KAt (w:World) (A:Option Addr) (n c:Nat) (l:List Int):Prop where
 len:l.length=n
 cap:n<=c
 nil:A=none->c=0
 row:IRow w A l
theorem KAt.below {w w':World} {A:Option Addr} {n c:Nat} {l:List Int} (h:KAt w A n c l) (hb:Below w.heap.size w w'):KAt w' A n c l:=⟨h.len,h.cap,h.nil,RowG.below h.row hb⟩
theorem h2f {w w':World} {S:List Nat} {A:Option Addr} {n c:Nat} {l:List Int} (h:KAt w A n c l) (m:Mod S w w') (hA:Off S A):KAt w' A n c l :=
 ⟨h.len,h.cap,h.nil,fun hne=>by
  obtain ⟨b,o,e,hlt,hc⟩:=h.row hne;exact ⟨b,o,e,Nat.lt_of_lt_of_le hlt m.size,fun j hj=>(m.cell (p:=⟨b,o+j,none⟩) hlt (hA ⟨b,o,none⟩ e)).trans (hc j hj)⟩⟩
theorem j6i {w:World} {A:Option Addr} {n c:Nat} {l:List Int} (h:KAt w A n c l) (k:Nat) (hk:k<=n):KAt w A k c (l.take k) :=
 ⟨by rw [List.length_take,h.len];omega,Nat.le_trans hk h.cap,h.nil,TreeI.row_take h.row k⟩
theorem TrOn.grown {w0 w w':World} {B:Blk} {tb:Nat} {d:St} {t:T} {r dp c:Int} (h:TrOn w0 w B tb d t r dp c) {o:Option Nat} (g:w.grownBy w' o) (ho:∀ x,o=some x->x∈B.xs/\x∉tall tb B/\w0.heap.size<=x):TrOn w0 w' B tb d t r dp c:=by
 rcases o with _ | x
 ·exact h.quiet ((Below.refl _ _).grown g (Nat.le_refl _) (fun k e=>by cases e))
 ·obtain ⟨h1,h2,h3⟩:=ho x rfl;exact h.touch h1 h2 h3 ((Mod.refl [x] w).grown g (fun k e=>.inl (by cases e;simp)))
theorem TrOn.addx {w0 w w':World} {B:Blk} {tb:Nat} {d:St} {t:T} {r dp c:Int} (h:TrOn w0 w B tb d t r dp c) {o:Option Nat} (g:w.grownBy w' o) (ho:∀ x,o=some x->x∈B.xs/\x∉tall tb B/\w0.heap.size<=x) (hx:w.heap.size<w'.heap.size):TrOn w0 w' (h1r B w.heap.size) tb d t r dp c:=by
 have q:=h.grown g ho;obtain ⟨a,s⟩:=h.sto.has;have k:=SepB.new s (Nat.le_refl _);have s':Sto w' B d t a:=by
  rcases o with _ | x
  ·exact s.below ((Below.refl _ _).grown g (Nat.le_refl _) (fun k e=>by cases e))
  ·obtain ⟨h1,h2,h3⟩:=ho x rfl;exact s.other ((Mod.refl [x] w).grown g (fun k e=>.inl (by cases e;simp))) (fun e=>h2 (List.mem_cons_of_mem _ e)) (s.sepx h1)
 exact ⟨⟨⟨a,s'.addx hx k⟩,q.sto.below,q.sto.new⟩,q.box,q.out,List.mem_cons_of_mem _ q.mem,q.new⟩
abbrev g4i (B:Blk) (X:List Nat):Blk:={B with xs:=X++B.xs}
theorem TrOn.unxs {w0 w:World} {B:Blk} {tb:Nat} {d:St} {t:T} {r dp c:Int} (hm:tb∈B.xs):∀ (X:List Nat),TrOn w0 w (g4i B X) tb d t r dp c->TrOn w0 w B tb d t r dp c
 | [],h=>h
 | x :: X,h=>TrOn.unxs hm X (TrOn.unx (B:=g4i B X) (x:=x) h (List.mem_append_right _ hm))
theorem h2w {w w':World} {S:List Nat} {e:TypeId} {α:Type} {enc:α->Value} {B:Nat} {v:Value} {l:List α} (h:OwnG w e enc B v l) (m:Mod S w w') (hs:∀ g,v.ownBlock=some g->g∉S):OwnG w' e enc B v l:=by
 obtain ⟨hl,h | ⟨g,cap,cur,hv,hg,hh,h4,h5,h6,h7⟩⟩:=h
 ·exact ⟨hl,.inl h⟩
 ·have hlt:g<w.heap.size:=(Array.getElem?_eq_some_iff.1 hh).1;exact ⟨hl,.inr ⟨g,cap,cur,hv,hg,by rw [m.block g hlt (hs g (by rw [hv];rfl))];exact hh,h4,h5,h6,h7⟩⟩
structure g9k (w0 w:World) (B:Blk) (tb:Nat) (d:St) (t:T) (r dp c:Int) (b0:Nat) (v:Value) (ns:List Int):Prop where
 ex:∃ X,TrOn w0 w (g4i B X) tb d t r dp c/\(∀ g,v.ownBlock=some g->g∈X)/\tb∈B.xs
 own:TreeI.Ow w b0 v ns
 low:w0.heap.size<=b0
 out:∀ k∈tall tb B,k<b0
theorem g9k.tr {w0 w:World} {B:Blk} {tb:Nat} {d:St} {t:T} {r dp c:Int} {b0:Nat} {v:Value} {ns:List Int} (h:g9k w0 w B tb d t r dp c b0 v ns):TrOn w0 w B tb d t r dp c:=by
 obtain ⟨X,h1,_,h3⟩:=h.ex;exact TrOn.unxs h3 X h1
theorem g9k.ge {w0 w:World} {B:Blk} {tb:Nat} {d:St} {t:T} {r dp c:Int} {b0:Nat} {v:Value} {ns:List Int} (h:g9k w0 w B tb d t r dp c b0 v ns):∀ g,v.ownBlock=some g->b0<=g/\g<w.heap.size:=fun g hg=>World.ownsRow.lt h.own g hg
theorem g9k.quiet {w0 w w':World} {B:Blk} {tb:Nat} {d:St} {t:T} {r dp c:Int} {b0:Nat} {v:Value} {ns:List Int} (h:g9k w0 w B tb d t r dp c b0 v ns) (b:Below w.heap.size w w'):g9k w0 w' B tb d t r dp c b0 v ns:=by
 obtain ⟨X,h1,h2,h3⟩:=h.ex;exact ⟨⟨X,h1.quiet b,h2,h3⟩,OwnG.kept h.own b,h.low,h.out⟩
theorem g9k.lay {w0 w:World} {B:Blk} {tb:Nat} {d:St} {t:T} {r dp c:Int} {b0:Nat} {v:Value} {ns:List Int} (h:g9k w0 w B tb d t r dp c b0 v ns) (old:Int) (ho:I64 old) (p:Pg) (y:Lay) (hok:PgOk p) (hR:g0c w p y) (hap:Apart (tall tb B) p y) :
 Calls Tryz.prog 232 #[ptr B.ss,.int .i64 old,pgV p y] w (fun e w'=>∃ d' t' n x,e=.returned (.tuple #[numV n,numV x])/\LayR d t old p d' t' n x/\g9k w0 w' B tb d' t' r dp c b0 v ns/\Mod B.all w w'):=by
 obtain ⟨X,h1,h2,h3⟩:=h.ex;obtain ⟨a,s⟩:=h1.sto.has;refine (g6t s old ho p y hok hR ⟨fun e=>(hap.o1 e).mono (fun x hx=>List.mem_cons_of_mem _ hx),fun e=>(hap.o2 e).mono (fun x hx=>List.mem_cons_of_mem _ hx),fun e=>(hap.o3 e).mono (fun x hx=>List.mem_cons_of_mem _ hx),fun e=>(hap.o4 e).mono (fun x hx=>List.mem_cons_of_mem _ hx)⟩).mono ?_;rintro e w' ⟨d',t',n,x,he,hl,hs,m⟩;exact ⟨d',t',n,x,he,hl,⟨⟨X,h1.store hs m,h2,h3⟩,h2w h.own m (fun g hg e=>by have h1:=(h.ge g hg).1;have h2:=h.out g (List.mem_cons_of_mem _ e);omega),h.low,h.out⟩,m⟩
theorem g9k.more {w0 w:World} {B:Blk} {tb:Nat} {d:St} {t:T} {r dp c:Int} {b0:Nat} {v:Value} {ns:List Int} (h:g9k w0 w B tb d t r dp c b0 v ns) (n:Int) (hb:b0<=w.heap.size) (hl:ns.length<=1000) :
 ∃ v' w',(Builtin.append_ #[66,66] 66 #[v,.slice (some ⟨w.heap.size,0,none⟩) 1 1]).run Tryz.prog (w.alloc (.cells #[.int .i64 n] 3))=.ok v' w'/\g9k w0 w' B tb d t r dp c b0 v' (ns++[n])/\Below b0 w w':=by
 have b1:=Pool.g0a w (.cells #[.int .i64 n] 3);have a1:=at_new w #[.int .i64 n] 3;have h1:=h.quiet b1;obtain ⟨W,hW⟩:∃ W,w.alloc (.cells #[.int .i64 n] 3)=W:=⟨_,rfl⟩;rw [hW] at b1 a1 h1 ⊢;obtain ⟨v',w',hrun,ho,hg,hv⟩:=g1x Pool.g2p W b0 v ns h1.own (some ⟨w.heap.size,0,none⟩) 1 1 [n] rfl (fun e=>by cases e) (fun _=>⟨w.heap.size,0,rfl,a1.1,fun k hk=>by
  have:k=0:=by simpa using hk
  subst this;exact a1.2.2 0 _ rfl⟩) (by simp;omega) (Nat.le_trans hb b1.size)
 obtain ⟨X,g1,g2,g3⟩:=h1.ex;have hoo:∀ x,v.ownBlock=some x->x∈(g4i B X).xs/\x∉tall tb (g4i B X)/\w0.heap.size<=x:=fun x hx=>by
  have k1:=(h1.ge x hx).1;exact ⟨List.mem_append_left _ (g2 x hx),fun e=>by have:=h.out x e;omega,Nat.le_trans h.low k1⟩
 have bb:Below b0 W w':=(Below.refl b0 W).grown hg (Nat.le_trans hb b1.size) (fun k e=>(h1.ge k e).1);have bt:=(b1.mono hb).trans bb;refine ⟨v',w',hrun,⟨?_,ho,h.low,h.out⟩,bt⟩;have hsz:∀ g,v'.ownBlock=some g->g<w'.heap.size:=fun g hg=>(World.ownsRow.lt ho g hg).2
 rcases hv with hv | hv
 ·exact ⟨X,g1.grown hg hoo,fun g hg=>g2 g (by rw [<- hv];exact hg),g3⟩
 ·exact ⟨W.heap.size :: X,g1.addx hg hoo (hsz _ hv),fun g hg=>by rw [hv] at hg;cases hg;exact List.mem_cons_self ..,g3⟩
theorem j3g {S:List Nat} {a w w':World} (h:Mod S a w) (b:Below a.heap.size w w'):Mod S a w' :=
 ⟨b.os.trans h.os,b.tape.trans h.tape,b.output.trans h.output,Nat.le_trans h.size b.size,fun k hk hn=>(b.block k hk).trans (h.block k hk hn)⟩
theorem g1v {w:World} {e:TypeId} {α:Type} {enc:α->Value} {B B':Nat} {v:Value} {l:List α} (h:OwnG w e enc B v l) (hb:B'<=B):OwnG w e enc B' v l:=by
 obtain ⟨hl,h | ⟨g,cap,cur,hv,hg,hh,h4,h5,h6,h7⟩⟩:=h
 ·exact ⟨hl,.inl h⟩
 ·exact ⟨hl,.inr ⟨g,cap,cur,hv,Nat.le_trans hb hg,hh,h4,h5,h6,h7⟩⟩
structure j9m (ps:List Pg) (os:List Int) (d0:St) (t0:T) (w0 W:World) (B:Blk) (tb:Nat) (r dp c:Int) (k:Nat) (d:St) (t:T) (v:Value) (ns:List Int) (wr:World):Prop where
 kid:g9k w0 wr B tb d t r dp c W.heap.size v ns
 mod:Mod (tall tb B) W wr
 len:ns.length<=k
 rest:∀ d' t' ns' x,Lays ps os d t k ns d' t' ns' x->Lays ps os d0 t0 0 [] d' t' ns' x
theorem h8b {w0 w:World} {B:Blk} {tb:Nat} {d:St} {t:T} {r dp c:Int} (h:TrOn w0 w B tb d t r dp c) (p:Pg) (y:Lay) (hok:PgOk p) (hr:g0c w p y) (hap:Apart (tall tb B) p y) (hf:g0o p<=g1j p) {A:Option Addr} {n cap:Nat} {os:List Int} (ho:KAt w A n cap os) (hoo:Off (tall tb B) A) (hI:∀ x∈os,I64 x) (hn:n<=1000) :
 Calls Tryz.prog 229 #[ptr tb,pgV p y,.slice A n cap] w (g5e (g2n d t p os) w0 B tb r dp c w):=by
 have b1:=Pool.g0a w (.cells (pgC p y) 103);have A1:=at_new w (pgC p y) 103;obtain ⟨W1,hW1⟩:∃ W1,w.alloc (.cells (pgC p y) 103)=W1:=⟨_,rfl⟩;rw [hW1] at A1 b1;have b2:=Pool.g0a W1 (.cells (pgC p y) 103);have A2:=A1.below b2 A1.1;have G2:=at_new W1 (pgC p y) 103;obtain ⟨W2,hW2⟩:∃ W2,W1.alloc (.cells (pgC p y) 103)=W2:=⟨_,rfl⟩;rw [hW2] at A2 b2 G2;have B2:=hid (b1.trans (b2.mono b1.size))
 have L1:=hid (g1c (o:=0) A1 p y rfl);have KS:∀ w',Below W2.heap.size W2 w'->w'.cell? ⟨w.heap.size,0,none⟩=some (.int .i64 p.kind)/\w'.cell? ⟨w.heap.size,1,none⟩=some (.slice y.A1 p.pairs.length y.c1)/\w'.cell? ⟨w.heap.size,2,none⟩=some (.slice y.A2 p.keys.length y.c2)/\w'.cell? ⟨w.heap.size,3,none⟩=some (.slice y.A3 p.kids.length y.c3)/\w'.cell? ⟨w.heap.size,4,none⟩=some (.slice y.A4 p.pages.length y.c4)/\w'.cell? ⟨w.heap.size,5,none⟩=some (.int .i64 p.next)/\w'.cell? ⟨w.heap.size,6,none⟩=some (.int .u64 (p.epoch:Int))/\w'.cell? ⟨w.heap.size,7,none⟩=some (.int .i64 p.root)/\w'.cell? ⟨w.heap.size,8,none⟩=some (.int .i64 p.depth)/\w'.cell? ⟨w.heap.size,9,none⟩=some (.int .i64 p.count)/\w'.cell? ⟨w.heap.size,10,none⟩=some (.int .i64 p.high):=fun w' hb=>by
  have g2:=A2.below hb A2.1;exact ⟨g2.2.2 0 _ rfl,g2.2.2 1 _ rfl,g2.2.2 2 _ rfl,g2.2.2 3 _ rfl,g2.2.2 4 _ rfl,g2.2.2 5 _ rfl,g2.2.2 6 _ rfl,g2.2.2 7 _ rfl,g2.2.2 8 _ rfl,g2.2.2 9 _ rfl,g2.2.2 10 _ rfl⟩
 have HKS:=hid KS;have K0:=hid (KS _ ((Below.refl _ _).drew:Below W2.heap.size W2 W2.drew));have hpv:pgV p y=.agg #[.int .i64 p.kind,.slice y.A1 p.pairs.length y.c1,.slice y.A2 p.keys.length y.c2,.slice y.A3 p.kids.length y.c3,.slice y.A4 p.pages.length y.c4,.int .i64 p.next,.int .u64 (p.epoch:Int),.int .i64 p.root,.int .i64 p.depth,.int .i64 p.count,.int .i64 p.high]:=rfl;have cF:=h1f p y W2.drew
 have cM:=hid (fun W=>h9x p y W);rw [hpv] at cF cM L1 ⊢;obtain ⟨f,hff⟩:∃ f,g0o p=f:=⟨_,rfl⟩;obtain ⟨q,hqq⟩:∃ q,g1j p=q:=⟨_,rfl⟩;have HF:=hid (show g4h p=[p]/\g6m p=[] from ⟨if_neg (by omega),if_neg (by omega)⟩);have hnf:¬ (q<f):=by omega
 rw [hff] at cF;rw [hqq] at cM;have PS:=hid (show j4y W2 W1.heap.size (tall tb B) [(p,y)] from
  ⟨G2.1,by simpa using G2,fun x hx=>by rw [List.mem_singleton] at hx;subst hx;exact hr.below B2.out,fun x hx=>by rw [List.mem_singleton] at hx;subst hx;exact hok,fun x hx=>by rw [List.mem_singleton] at hx;subst hx;exact hap,g3r h (b1.size)⟩)
 have H2:=hid (h.quiet B2.out);have O2:=hid (ho.below B2.out);have HOO:=hid hoo;have HI:=hid hI;have HH:=hid h;have HN:=hid hn;have LW:=hid (show w.heap.size<=W1.heap.size/\w.heap.size<W2.heap.size/\W1.heap.size<=W2.heap.size from ⟨b1.size,A2.1,b2.size⟩);have hW2':W1.alloc (.cells #[.int .i64 p.kind,.slice y.A1 p.pairs.length y.c1,.slice y.A2 p.keys.length y.c2,.slice y.A3 p.kids.length y.c3,.slice y.A4 p.pages.length y.c4,.int .i64 p.next,.int .u64 (p.epoch:Int),.int .i64 p.root,.int .i64 p.depth,.int .i64 p.count,.int .i64 p.high] 103)=W2:=hW2
 clear b1 b2 A1 A2 G2 KS hr hok hap hf h ho hoo hI hff hqq hpv hW2;have hW1':w.alloc (.cells #[.int .i64 p.kind,.slice y.A1 p.pairs.length y.c1,.slice y.A2 p.keys.length y.c2,.slice y.A3 p.kids.length y.c3,.slice y.A4 p.pages.length y.c4,.int .i64 p.next,.int .u64 (p.epoch:Int),.int .i64 p.root,.int .i64 p.depth,.int .i64 p.count,.int .i64 p.high] 103)=W1:=hW1;clear hW1;go_enter Tryz.func229,Tryz.ntmps229
 go_wp2_with (first | ((with_reducible refine Disk.g0d rfl 103 (.tmp 4) rfl _ ?_ L1.out ?_);(next=>rfl)))
 go_region_held3 (fun w'=>w'.cell? ⟨w.heap.size,0,none⟩=some (.int .i64 p.kind)/\w'.cell? ⟨w.heap.size,1,none⟩=some (.slice y.A1 p.pairs.length y.c1)/\w'.cell? ⟨w.heap.size,2,none⟩=some (.slice y.A2 p.keys.length y.c2)/\w'.cell? ⟨w.heap.size,3,none⟩=some (.slice y.A3 p.kids.length y.c3)/\w'.cell? ⟨w.heap.size,4,none⟩=some (.slice y.A4 p.pages.length y.c4)/\w'.cell? ⟨w.heap.size,5,none⟩=some (.int .i64 p.next)/\w'.cell? ⟨w.heap.size,6,none⟩=some (.int .u64 (p.epoch:Int))/\w'.cell? ⟨w.heap.size,7,none⟩=some (.int .i64 p.root)/\w'.cell? ⟨w.heap.size,8,none⟩=some (.int .i64 p.depth)/\w'.cell? ⟨w.heap.size,9,none⟩=some (.int .i64 p.count)/\w'.cell? ⟨w.heap.size,10,none⟩=some (.int .i64 p.high))
  (with_reducible (first | exact K0.out | exact K1.out | exact K2.out))
  (first
    | (go_at_call 226;(with_reducible refine cF.mono ?_);rintro e w3 ⟨rfl,bf⟩
       have B3:=hid (show Below W2.heap.size W2 w3 from ((Below.refl W2.heap.size W2).drew).trans bf);have K1:=hid (HKS.out _ B3.out);have cM2:=cM.out w3;clear bf)
    | (go_at_call 254;(with_reducible refine cM2.mono ?_);rintro e w4 ⟨rfl,bm⟩
       have B4:=hid (B3.out.trans (bm.mono B3.out.size));have K2:=hid (HKS.out _ B4.out);clear bm))
 have H4:=hid (H2.out.quiet B4.out);have O4:=hid (O2.out.below B4.out);have PS4:=hid (PS.out.mod (Mod.of_below (tall tb B) B4.out));have M4:=hid (Mod.of_below (tall tb B) (B2.out.trans (B4.out.mono B2.out.size)));have S4:=hid (show w.heap.size<=w4.heap.size from Nat.le_trans B2.out.size B4.out.size);have KEY:=hid (show ∀ W,Mod (tall tb B) w4 W->TreeS.Ow W w.heap.size (.slice none 0 0) (g6m p) from fun W _=>by rw [HF.out.2];exact OwnG.nil _ _ _ _)
 clear K0 K1 K2 cF cM cM2 B3 B2 B4 H2 O2 PS HKS L1;go_wp2_with fail
 go_loopw [2,6,7] (fun v kv nv wr=>∃ (k:Nat) (t1:T),v=.slice A k cap/\kv=.slice none 0 0/\nv=.slice none 0 0/\Hid (k7q d t os 1 w0 w4 B tb r dp c k t1 wr)) (fun v _ _ _=>lenV v)
 case atStart=>exact ⟨n,t,rfl,rfl,rfl,hid ⟨Nat.le_of_eq O4.out.len.symm,H4.out,Mod.refl _ _,fun _ _ _ h=>by rwa [List.take_of_length_le (Nat.le_of_eq O4.out.len)] at h⟩⟩
 case round =>
  obtain ⟨k,t1,rfl,rfl,rfl,R⟩:=hrel;clear H4;have hkn:k<=n:=by have:=R.out.le;have:=O4.out.len;omega
  have HKN:=hid hkn
  by_cases hk:1<k
  ·obtain ⟨j,hj⟩:∃ j,k=j+1:=⟨k-1,by omega⟩;have hw1:IntKind.i64.wrap ((k:Int)-1)=(j:Int):=by have:=HN.out;rw [IntWalk.i64_in _ (by omega)];omega
   have hk2:(1:Int)<(k:Int):=by omega
   have hjk:(j:Int)<(k:Int):=by omega
   have hjk2:j<k:=by omega
   have hjc:j<=cap:=by have:=O4.out.cap;omega
   have hOw:=h2f O4.out R.out.mod HOO.out;have hjo:j<os.length:=by have:=O4.out.len;omega
   obtain ⟨ob,oo,eA,hbl,hc⟩:=hOw.row (by intro e;rw [e] at hjo;simp at hjo);have hcell:=hc j hjo;have hoff:ob∉tall tb B:=HOO.out ⟨ob,oo,none⟩ eA;have LT:=hid (show (os.take k).length=k/\(os.take k)[(os.take k).length-1]?.getD 0=os[j]/\(os.take k).take ((os.take k).length-1)=os.take j from by
    have e:(os.take k).length=k:=by rw [List.length_take];omega
    rw [e,hj];refine ⟨rfl,?_,?_⟩
    ·rw [Nat.add_sub_cancel,List.getElem?_take,if_pos (by omega),List.getElem?_eq_getElem hjo];rfl
    ·rw [List.take_take,Nat.add_sub_cancel];congr 1;omega)
   have hI64:=HI.out _ (List.getElem_mem hjo);obtain ⟨z,hz⟩:∃ z,os[j]=z:=⟨_,rfl⟩;rw [hz] at hcell LT hI64;have bD:Below wr.heap.size wr wr.drew:=(Below.refl _ _).drew;have HD:=hid (R.out.tr.quiet bD);obtain ⟨a,s⟩:=HD.out.sto.has;have cD:=h3r s z hI64;have HKS:=hid (show ∀ w',Mod B.all wr w'->w'.cell? ⟨ob,oo+j,none⟩=some (.int .i64 z) from fun w' hm=>(hm.cell (p:=⟨ob,oo+j,none⟩) hbl (fun e=>hoff (List.mem_cons_of_mem _ e))).trans hcell)
   have K0:=hid (show wr.drew.cell? ⟨tb,0,none⟩=some (ptr B.ss)/\wr.drew.cell? ⟨ob,oo+j,none⟩=some (.int .i64 z) from ⟨HD.out.box.2.2 0 _ rfl,hcell⟩);have MD:=hid (Mod.of_below B.all bD);have s1:=fun W=>TreeI.row_head (some ⟨ob,oo,none⟩) k cap j hjc W
   rcases hd:g1n t1 z with ⟨t2,x⟩;rw [hd] at cD;have HDT:=hid hd;subst eA;clear hc hcell s hz hI64 bD hd hOw hoff hbl hjo hjc hkn;simp only at cD;have HJ:=hid hj;have HK:=hid hk;clear hj;go_wp2_with fail
   go_region_held3 (fun w'=>w'.cell? ⟨tb,0,none⟩=some (ptr B.ss)/\w'.cell? ⟨ob,oo+j,none⟩=some (.int .i64 z))
    (with_reducible (first | exact K0.out | exact K1.out))
    (first
      | (go_at_call 104;(with_reducible refine cD.mono ?_);rintro e w5 ⟨rfl,hs5,m5⟩
         have H5:=hid (HD.out.store hs5 m5);have M5:=hid (MD.out.trans m5);have K1:=hid (show w5.cell? ⟨tb,0,none⟩=some (ptr B.ss)/\w5.cell? ⟨ob,oo+j,none⟩=some (.int .i64 z) from ⟨H5.out.box.2.2 0 _ rfl,HKS.out _ M5.out⟩);clear hs5 m5))
   have M6:=hid (R.out.mod.trans (M5.out.mono (fun x hx=>List.mem_cons_of_mem _ hx)));clear K0 K1 HKS cD
   by_cases hx:x=0
   ·have d1:(x != 0)=false:=by simp [hx]
    have HR:=hid (show k7q d t os 1 w0 w4 B tb r dp c j t2 w5 from ⟨by have:=R.out.le;have:=HJ.out;omega,H5.out,M6.out,fun t' os' x' hh=>R.out.rest t' os' x' (.step (by rw [LT.out.1];exact HK.out) (by rw [LT.out.2.1,HDT.out];exact hx) (by rw [LT.out.2.1,LT.out.2.2,HDT.out];exact hh))⟩);clear hx M6 H5 M5 R MD HD hk hk2;go_wp2_with fail
    go_roundw
    case rel=>exact ⟨j,t2,rfl,rfl,rfl,HR⟩
    case measure=>simp [lenV];omega
   ·have d1:(x != 0)=true:=by simp [hx]
    have FIN:=hid (show g5e (g2n d t p os) w0 B tb r dp c w (.returned (.tuple #[.slice none 0 0,.slice none 0 0,numV x])) w5 from
     ⟨d,t2,[],[],x,_,_,rfl,⟨t2,os.take k,x,by rw [HF.out.1];exact R.out.rest _ _ _ (by
      have:=h2n.fail (m:=1) (t:=t1) (os:=os.take k) (x:=x) (by rw [LT.out.1];exact HK.out) (by rw [LT.out.2.1,HDT.out]) hx
      rwa [LT.out.2.1,HDT.out] at this),.inl ⟨hx,rfl,rfl,rfl,rfl,rfl⟩⟩,H5.out,M4.out.trans M6.out,OwnG.nil _ _ _ _,OwnG.nil _ _ _ _⟩)
    clear hx M6 H5 M5 R MD HD hk hk2;go_wp2_with fail
    (try simp only [Exit.inBlock,Exit.then])
    refine bodyPost_ret (g2a rfl) rfl ?_;exact FIN.out
  ·have hk2:¬ ((1:Int)<(k:Int)):=by omega
   have HDR:=hid (show h2n 1 t os t1 (os.take k) 0 from R.out.rest _ _ _ (.done (by rw [List.length_take];omega)));have H5:=hid R.out.tr;have M5:=hid R.out.mod;have O5:=hid (j6i (h2f O4.out M5.out HOO.out) k hkn);have PS5:=hid (PS4.out.mod M5.out);have LO5:=hid (show w0.heap.size<=wr.heap.size/\∀ k∈tall tb B,k<wr.heap.size from ⟨R.out.tr.sto.below.size,fun k hk=>by
    obtain ⟨a,s⟩:=R.out.tr.sto.has;rcases List.mem_cons.1 hk with rfl | hk
    ·exact R.out.tr.box.1
    ·exact s.lt _ hk⟩)
   clear R hk
   rename World=>wa
   go_wp2_with fail
   go_loopw [6,7,63] (fun kv v i wr=>∃ (q:Nat) (d1:St) (t2:T) (ns:List Int),kv=.slice none 0 0/\i=.int .i64 (q:Int)/\q<=1/\Hid (j9m (g4h p) (os.take k) d t1 w0 wa B tb r dp c q d1 t2 v ns wr)) (fun _ _ i _=>1-(intOf i).toNat)
   case atStart=>exact ⟨0,d,t1,[],rfl,rfl,Nat.zero_le _,hid ⟨⟨⟨[],H5.out,fun g e=>(by cases e),H5.out.mem⟩,OwnG.nil _ _ _ _,LO5.out.1,LO5.out.2⟩,Mod.refl _ _,Nat.le_refl _,fun _ _ _ _ h=>h⟩⟩
   case round =>
   obtain ⟨q,d1,t2,ns,rfl,rfl,hqm,R⟩:=hrel;clear H5
   by_cases hq:q<1
   ·have hq2:(q:Int)<(1:Int):=by omega
    obtain ⟨⟨pq,yq⟩,hx⟩:∃ x,([(p,y)]:List (Pg×Lay))[q]?=some x:=⟨_,List.getElem?_eq_getElem (by simpa using hq)⟩;have PSq:=PS5.out.mod R.out.mod;have LQ:=hid (PSq.load q hx);have hmem:(pq,yq)∈([(p,y)]:List (Pg×Lay)):=List.mem_of_getElem? hx;have OKQ:=hid (PSq.ok _ hmem);have APQ:=hid (PSq.ap _ hmem);have HPQ:=hid (show (g4h p)[q]?=some pq from by
     rw [HF.out.1];show (([(p,y)]:List (Pg×Lay)).map (·.1))[q]?=_;rw [List.getElem?_map,hx];rfl)
    have P1:=hid (g1s wr pq yq);have b2:=Pool.g0a wr (.cells (pgC pq yq) 103);have A2:=at_new wr (pgC pq yq) 103;have NB:=hid (show wr.heap.size∉B.all from fun e=>by have:=LO5.out.2 _ (List.mem_cons_of_mem _ e);have:=R.out.mod.size;omega);obtain ⟨W6,hW6⟩:∃ W6,wr.alloc (.cells (pgC pq yq) 103)=W6:=⟨_,rfl⟩;rw [hW6] at P1 b2 A2;have bD:=b2.drew;have KD6d:=hid (R.out.kid.quiet bD);have RQ6:=hid (show g0c W6.drew pq yq from (PSq.rows _ hmem).below bD)
    have MW6:=hid (show Mod (tall tb B) wa W6.drew from R.out.mod.trans (Mod.of_below _ bD));have A2d:At W6.drew wr.heap.size (pgC pq yq):=A2.below ((Below.refl W6.heap.size W6).drew) A2.1;have HKS:=hid (show ∀ (w':World) (d2:St) (t3:T) (v:Value) (ns:List Int),g9k w0 w' B tb d2 t3 r dp c wa.heap.size v ns->Mod B.all W6.drew w'->w'.cell? ⟨tb,0,none⟩=some (ptr B.ss)/\w'.cell? ⟨wr.heap.size,0,none⟩=some (.int .i64 pq.kind)/\w'.cell? ⟨wr.heap.size,1,none⟩=some (.slice yq.A1 pq.pairs.length yq.c1)/\w'.cell? ⟨wr.heap.size,2,none⟩=some (.slice yq.A2 pq.keys.length yq.c2)/\w'.cell? ⟨wr.heap.size,3,none⟩=some (.slice yq.A3 pq.kids.length yq.c3)/\w'.cell? ⟨wr.heap.size,4,none⟩=some (.slice yq.A4 pq.pages.length yq.c4)/\w'.cell? ⟨wr.heap.size,5,none⟩=some (.int .i64 pq.next)/\w'.cell? ⟨wr.heap.size,6,none⟩=some (.int .u64 (pq.epoch:Int))/\w'.cell? ⟨wr.heap.size,7,none⟩=some (.int .i64 pq.root)/\w'.cell? ⟨wr.heap.size,8,none⟩=some (.int .i64 pq.depth)/\w'.cell? ⟨wr.heap.size,9,none⟩=some (.int .i64 pq.count)/\w'.cell? ⟨wr.heap.size,10,none⟩=some (.int .i64 pq.high) from fun w' d2 t3 v ns hk hm=>by
     have g2:=g0l A2d hm NB.out;exact ⟨hk.tr.box.2.2 0 _ rfl,g2.2.2 0 _ rfl,g2.2.2 1 _ rfl,g2.2.2 2 _ rfl,g2.2.2 3 _ rfl,g2.2.2 4 _ rfl,g2.2.2 5 _ rfl,g2.2.2 6 _ rfl,g2.2.2 7 _ rfl,g2.2.2 8 _ rfl,g2.2.2 9 _ rfl,g2.2.2 10 _ rfl⟩)
    have K0:=hid (HKS.out _ _ _ _ _ KD6d.out (Mod.refl _ _));obtain ⟨pv,hpv⟩:∃ pv,pgV pq yq=pv:=⟨_,rfl⟩;rw [hpv] at P1 LQ
    by_cases hqk:q<k
    ·have hOq:=h2f O5.out R.out.mod HOO.out;have hqo:q<(os.take k).length:=by have:=O5.out.len;omega
     obtain ⟨ob,oo,eA,hbl,hc⟩:=hOq.row (by intro e;rw [e] at hqo;simp at hqo);have hcell:=(b2.cell (p:=⟨ob,oo+q,none⟩) hbl).trans (hc q hqo);have HZ:=hid (show (os.take k)[q]?.getD 0=(os.take k)[q] from by rw [List.getElem?_eq_getElem hqo];rfl);have IZ:=hid (HI.out _ (List.mem_of_mem_take (List.getElem_mem hqo)));obtain ⟨z,hz⟩:∃ z,(os.take k)[q]=z:=⟨_,rfl⟩;rw [hz] at hcell HZ IZ;have hcell2:W6.cell? ⟨ob,oo+q,none⟩=some (.int .i64 z):=hcell
     have hqk2:(q:Int)<(k:Int):=by omega
     subst eA;clear hc hcell hz hOq hqo hbl PSq hmem hx b2 A2 A2d bD hpv hW6;go_wp2_with (first | ((with_reducible refine Disk.g0d rfl 103 (.tmp 66) rfl _ ?_ LQ.out ?_);(next=>rfl)) | ((with_reducible refine Disk.g0b rfl 103 (.tmp 16) (.tmp 67) rfl _ _ ?_ ?_ P1.out ?_);(next=>rfl);(next=>rfl)))
     have cL:Calls Tryz.prog 232 #[ptr B.ss,.int .i64 z,.agg #[.int .i64 pq.kind,.slice yq.A1 pq.pairs.length yq.c1,.slice yq.A2 pq.keys.length yq.c2,.slice yq.A3 pq.kids.length yq.c3,.slice yq.A4 pq.pages.length yq.c4,.int .i64 pq.next,.int .u64 (pq.epoch:Int),.int .i64 pq.root,.int .i64 pq.depth,.int .i64 pq.count,.int .i64 pq.high]] W6.drew _:=KD6d.out.lay z IZ.out pq yq OKQ.out RQ6.out APQ.out
     go_wp2_with fail
     go_region_held3 (fun w'=>w'.cell? ⟨tb,0,none⟩=some (ptr B.ss)/\w'.cell? ⟨wr.heap.size,0,none⟩=some (.int .i64 pq.kind)/\w'.cell? ⟨wr.heap.size,1,none⟩=some (.slice yq.A1 pq.pairs.length yq.c1)/\w'.cell? ⟨wr.heap.size,2,none⟩=some (.slice yq.A2 pq.keys.length yq.c2)/\w'.cell? ⟨wr.heap.size,3,none⟩=some (.slice yq.A3 pq.kids.length yq.c3)/\w'.cell? ⟨wr.heap.size,4,none⟩=some (.slice yq.A4 pq.pages.length yq.c4)/\w'.cell? ⟨wr.heap.size,5,none⟩=some (.int .i64 pq.next)/\w'.cell? ⟨wr.heap.size,6,none⟩=some (.int .u64 (pq.epoch:Int))/\w'.cell? ⟨wr.heap.size,7,none⟩=some (.int .i64 pq.root)/\w'.cell? ⟨wr.heap.size,8,none⟩=some (.int .i64 pq.depth)/\w'.cell? ⟨wr.heap.size,9,none⟩=some (.int .i64 pq.count)/\w'.cell? ⟨wr.heap.size,10,none⟩=some (.int .i64 pq.high))
      (with_reducible (first | exact K0.out | exact K1.out))
      (first
        | (go_at_call 232;(with_reducible refine cL.mono ?_);rintro e w7 ⟨d2,t3,nn,x,rfl,hl,hk7,m7⟩
           have KD7:=hid hk7;have M7:=hid m7;have HL:=hid hl;have K1:=hid (HKS.out _ _ _ _ _ hk7 m7);clear hl hk7 m7))
     have MW7:=hid (MW6.out.trans (M7.out.mono (fun x hx=>List.mem_cons_of_mem _ hx)));clear K0 K1 HKS cL KD6d RQ6 LQ P1
     by_cases hx0:x=0
     ·have e1:(x != 0)=false:=by simp [hx0]
      subst hx0;obtain ⟨v',w8,hrun,hk8,b8⟩:=KD7.out.more nn MW7.out.size (by have:=R.out.len;omega);have RR:=hid hrun;have NEW:=hid (show j9m (g4h p) (os.take k) d t1 w0 wa B tb r dp c (q+1) d2 t3 v' (ns++[nn]) w8 from
       ⟨hk8,j3g MW7.out b8,by rw [List.length_append];have:=R.out.len;simp;omega,fun d' t' ns' x' hh=>R.out.rest _ _ _ _ (.step HPQ.out (by rw [HZ.out];exact HL.out) hh)⟩)
      have hwr:IntKind.i64.wrap ((q:Int)+1)=(q:Int)+1:=IntWalk.i64_in _ (by omega);clear hrun hk8 b8 KD7 M7 HL MW7 MW6 R hq2;go_wp2_with (first | ((with_reducible refine g0e rfl (.tmp 89) (.tmp 91) 66 rfl ?_ ?_ RR.out ?_);(next=>rfl);(next=>rfl)))
      go_roundw
      case rel=>exact ⟨q+1,d2,t3,ns++[nn],rfl,by go_num,by omega,NEW⟩
      case measure=>simp [intOf];omega
     ·have e1:(x != 0)=true:=by simp [hx0]
      have FIN:=hid (show g5e (g2n d t p os) w0 B tb r dp c w (.returned (.tuple #[.slice none 0 0,.slice none 0 0,numV x])) w7 from
       ⟨d2,t3,[],[],x,_,_,rfl,⟨t1,os.take k,0,by rw [HF.out.1];exact HDR.out,.inr ⟨rfl,R.out.rest _ _ _ _ (.fail HPQ.out (by rw [HZ.out];exact HL.out) hx0),by rw [if_neg hx0]⟩⟩,KD7.out.tr,M4.out.trans (M5.out.trans MW7.out),OwnG.nil _ _ _ _,OwnG.nil _ _ _ _⟩)
      clear hx0 KD7 M7 HL MW7 MW6 R hq2;go_wp2_with fail
      (try simp only [Exit.inBlock,Exit.then])
      refine bodyPost_ret (g2a rfl) rfl ?_;exact FIN.out
    ·have HZ:=hid (show (os.take k)[q]?.getD 0=0 from by rw [List.getElem?_eq_none (by have:=O5.out.len;omega)];rfl);have IZ:=hid (show I64 0 from ⟨by show _<=(0:Int);omega,by show (0:Int)<=_;omega⟩);have hqk2:¬ ((q:Int)<(k:Int)):=by omega
     clear PSq hmem hx b2 A2 A2d bD hpv hW6;go_wp2_with (first | ((with_reducible refine Disk.g0d rfl 103 (.tmp 66) rfl _ ?_ LQ.out ?_);(next=>rfl)) | ((with_reducible refine Disk.g0b rfl 103 (.tmp 16) (.tmp 67) rfl _ _ ?_ ?_ P1.out ?_);(next=>rfl);(next=>rfl)))
     have cL:Calls Tryz.prog 232 #[ptr B.ss,.int .i64 0,.agg #[.int .i64 pq.kind,.slice yq.A1 pq.pairs.length yq.c1,.slice yq.A2 pq.keys.length yq.c2,.slice yq.A3 pq.kids.length yq.c3,.slice yq.A4 pq.pages.length yq.c4,.int .i64 pq.next,.int .u64 (pq.epoch:Int),.int .i64 pq.root,.int .i64 pq.depth,.int .i64 pq.count,.int .i64 pq.high]] W6.drew _:=KD6d.out.lay 0 IZ.out pq yq OKQ.out RQ6.out APQ.out
     go_wp2_with fail
     go_region_held3 (fun w'=>w'.cell? ⟨tb,0,none⟩=some (ptr B.ss)/\w'.cell? ⟨wr.heap.size,0,none⟩=some (.int .i64 pq.kind)/\w'.cell? ⟨wr.heap.size,1,none⟩=some (.slice yq.A1 pq.pairs.length yq.c1)/\w'.cell? ⟨wr.heap.size,2,none⟩=some (.slice yq.A2 pq.keys.length yq.c2)/\w'.cell? ⟨wr.heap.size,3,none⟩=some (.slice yq.A3 pq.kids.length yq.c3)/\w'.cell? ⟨wr.heap.size,4,none⟩=some (.slice yq.A4 pq.pages.length yq.c4)/\w'.cell? ⟨wr.heap.size,5,none⟩=some (.int .i64 pq.next)/\w'.cell? ⟨wr.heap.size,6,none⟩=some (.int .u64 (pq.epoch:Int))/\w'.cell? ⟨wr.heap.size,7,none⟩=some (.int .i64 pq.root)/\w'.cell? ⟨wr.heap.size,8,none⟩=some (.int .i64 pq.depth)/\w'.cell? ⟨wr.heap.size,9,none⟩=some (.int .i64 pq.count)/\w'.cell? ⟨wr.heap.size,10,none⟩=some (.int .i64 pq.high))
      (with_reducible (first | exact K0.out | exact K1.out))
      (first
        | (go_at_call 232;(with_reducible refine cL.mono ?_);rintro e w7 ⟨d2,t3,nn,x,rfl,hl,hk7,m7⟩
           have KD7:=hid hk7;have M7:=hid m7;have HL:=hid hl;have K1:=hid (HKS.out _ _ _ _ _ hk7 m7);clear hl hk7 m7))
     have MW7:=hid (MW6.out.trans (M7.out.mono (fun x hx=>List.mem_cons_of_mem _ hx)));clear K0 K1 HKS cL KD6d RQ6 LQ P1
     by_cases hx0:x=0
     ·have e1:(x != 0)=false:=by simp [hx0]
      subst hx0;obtain ⟨v',w8,hrun,hk8,b8⟩:=KD7.out.more nn MW7.out.size (by have:=R.out.len;omega);have RR:=hid hrun;have NEW:=hid (show j9m (g4h p) (os.take k) d t1 w0 wa B tb r dp c (q+1) d2 t3 v' (ns++[nn]) w8 from
       ⟨hk8,j3g MW7.out b8,by rw [List.length_append];have:=R.out.len;simp;omega,fun d' t' ns' x' hh=>R.out.rest _ _ _ _ (.step HPQ.out (by rw [HZ.out];exact HL.out) hh)⟩)
      have hwr:IntKind.i64.wrap ((q:Int)+1)=(q:Int)+1:=IntWalk.i64_in _ (by omega);clear hrun hk8 b8 KD7 M7 HL MW7 MW6 R hq2;go_wp2_with (first | ((with_reducible refine g0e rfl (.tmp 89) (.tmp 91) 66 rfl ?_ ?_ RR.out ?_);(next=>rfl);(next=>rfl)))
      go_roundw
      case rel=>exact ⟨q+1,d2,t3,ns++[nn],rfl,by go_num,by omega,NEW⟩
      case measure=>simp [intOf];omega
     ·have e1:(x != 0)=true:=by simp [hx0]
      have FIN:=hid (show g5e (g2n d t p os) w0 B tb r dp c w (.returned (.tuple #[.slice none 0 0,.slice none 0 0,numV x])) w7 from
       ⟨d2,t3,[],[],x,_,_,rfl,⟨t1,os.take k,0,by rw [HF.out.1];exact HDR.out,.inr ⟨rfl,R.out.rest _ _ _ _ (.fail HPQ.out (by rw [HZ.out];exact HL.out) hx0),by rw [if_neg hx0]⟩⟩,KD7.out.tr,M4.out.trans (M5.out.trans MW7.out),OwnG.nil _ _ _ _,OwnG.nil _ _ _ _⟩)
      clear hx0 KD7 M7 HL MW7 MW6 R hq2;go_wp2_with fail
      (try simp only [Exit.inBlock,Exit.then])
      refine bodyPost_ret (g2a rfl) rfl ?_;exact FIN.out
   ·have FIN:=hid (show g5e (g2n d t p os) w0 B tb r dp c w (.returned (.tuple #[.slice none 0 0,u7,numV 0])) wr from
     ⟨d1,t2,g6m p,ns,0,_,_,rfl,⟨t1,os.take k,0,by rw [HF.out.1];exact HDR.out,.inr ⟨rfl,R.out.rest _ _ _ _ (.done (by rw [HF.out.1];simp;omega)),by rw [if_pos rfl]⟩⟩,R.out.kid.tr,M4.out.trans (M5.out.trans R.out.mod),KEY.out wr (M5.out.trans R.out.mod),g1v R.out.kid.own (Nat.le_trans M4.out.size M5.out.size)⟩)
    have hq2:¬ ((q:Int)<(1:Int)):=by omega
    clear R hq;go_wp2_with fail
    (try simp only [Exit.inBlock,Exit.then])
    refine bodyPost_ret (g2a rfl) rfl ?_;exact FIN.out
theorem g5l {α:Type} {w:World} {e:TypeId} {enc:α->Value} {B:Nat} {v:Value} {l:List α} (h:OwnG w e enc B v l):∃ A c,v=.slice A l.length c/\RowG w enc A l/\(∀ x,A=some x->B<=x.block)/\(A=none->c=0)/\l.length<=c/\c<=maxLen:=by
 obtain ⟨A,c,e,h1,h2,h3,h4⟩:=OwnG.row h;refine ⟨A,c,e,h4,fun x hx=>?_,h1,h2,h3⟩;subst hx;exact (World.ownsRow.lt h x.block (by rw [e];rfl)).1
abbrev g0f (ks:List Disk.Bs) (ns:List Int):Pg:={kind:=2,keys:=ks,kids:=ns}
theorem h5x {ks:List Disk.Bs} {ns:List Int} (h1:ks.length<=1000) (h2:ns.length<=1000):PgOk (g0f ks ns) :=
 ⟨⟨by show (_:Int)<=2;omega,by show (2:Int)<=_;omega⟩,Nat.zero_le _,by show ks.length<=_;omega,by show ns.length<=_;omega,Nat.zero_le _,g2e.next,by show 0<18446744073709551616;omega,g2e.root,g2e.depth,g2e.count,g2e.high⟩
def h7v (R:St->T->List Disk.Bs->List Int->Int->Prop) (D r dp:Int) (d':St) (t':T) (r' dp' x:Int):Prop:=∃ d1 t1 ks ns x1,R d1 t1 ks ns x1 /\
 ((x1≠0/\x=x1/\d'=d1/\t'=t1/\r'=r/\dp'=dp) \/
  (x1=0/\ks=[]/\x=0/\d'=d1/\t'=t1/\r'=ns.headD 0/\dp'=D) \/
  (x1=0/\ks≠[]/\∃ n x2,LayR d1 t1 0 (g0f ks ns) d' t' n x2/\((x2≠0/\x=x2/\r'=r/\dp'=dp)\/(x2=0/\x=0/\r'=n/\dp'=D+1))))
theorem j2f {w0 w:World} {B:Blk} {tb:Nat} {d:St} {t:T} {r dp c:Int} (_h:TrOn w0 w B tb d t r dp c) (n:Int) (D:Int) (hD:0<=D/\D<=1000) (p:Pg) (y:Lay) (hf:g0o p≠0) {R:St->T->List Disk.Bs->List Int->Int->Prop} (hRR:∀ d t ks ns,R d t ks ns 0->ns≠[]/\ks.length<=1000/\ns.length<=1000)
 (hs:∀ W b,w.heap.size<=b->Below w.heap.size w W->W.cell? ⟨b,0,none⟩=some (numV n)->b<W.heap.size->Calls Tryz.prog 229 #[ptr tb,pgV p y,.slice (some ⟨b,0,none⟩) 1 1] W (g5e R w0 B tb r dp c W)) :
 Calls Tryz.prog 185 #[ptr tb,.int .i64 n,.int .i64 D,pgV p y] w (g8h (h7v R D r dp) w0 B tb c w):=by
 have b1:=Pool.g0a w (.cells (pgC p y) 103);have A1:=hid (at_new w (pgC p y) 103);have B1:=hid b1;obtain ⟨W1,hW1⟩:∃ W1,w.alloc (.cells (pgC p y) 103)=W1:=⟨_,rfl⟩;rw [hW1] at A1 B1;have cF:=h1f p y W1;have L1:=hid (g1c (o:=0) A1.out p y rfl);have HS:=hid hs;have HRR:=hid hRR;have TN0:=hid (fun k (hk:w.heap.size<=k)=>g3r _h hk);have hq:((g0o p:Nat):Int)≠0:=by omega
 obtain ⟨q,hqq⟩:∃ q:Int,((g0o p:Nat):Int)=q:=⟨_,rfl⟩;rw [hqq] at cF hq;have d1:(q==0)=false:=by simp [hq]
 have hwd:IntKind.i64.wrap (D+1)=D+1:=IntWalk.i64_in _ (by omega);obtain ⟨C,hC⟩:∃ C,pgC p y=C:=⟨_,rfl⟩;have PV:pgV p y=.agg C:=congrArg Value.agg hC;rw [hC] at hW1;rw [PV] at cF L1;rw [PV];have HPV:=hid PV;clear b1 hs hf hqq hC PV _h hD hRR;go_enter Tryz.func185,Tryz.ntmps185
 go_wp2_with (first | ((with_reducible refine Disk.g0w rfl 103 (.tmp 3) rfl C ?_ ?_);(next=>rfl)) | ((with_reducible refine Disk.g0d rfl 103 (.tmp 7) rfl _ ?_ L1.out ?_);(next=>rfl)))
 refine cF.mono ?_;rintro e w2 ⟨rfl,b2⟩;have L2:=hid (g1c (o:=0) (A1.out.below b2 A1.out.1) p y rfl);have a3:=at_new w2 #[.int .i64 n] 3;have b3:=Pool.g0a w2 (.cells #[.int .i64 n] 3);have B2:=B1.out.trans (b2.mono B1.out.size);obtain ⟨W3,hW3⟩:∃ W3,w2.alloc (.cells #[.int .i64 n] 3)=W3:=⟨_,rfl⟩;rw [hW3] at a3 b3;have B3:=hid (B2.trans (b3.mono B2.size));have cS:=HS.out W3 w2.heap.size B2.size B3.out (a3.2.2 0 _ rfl) a3.1
 rw [HPV.out] at cS L2;clear a3 b2 b3 B2 cF L1;go_wp2_with (first | ((with_reducible refine Disk.g0d rfl 103 (.tmp 7) rfl _ ?_ L2.out ?_);(next=>rfl)))
 refine cS.mono ?_;rintro e w4 ⟨d4,t4,ks,ns,x,kv,nv,rfl,hR,H4,m4,hk4,hn4⟩;have M4:=hid ((Mod.of_below (tall tb B) B3.out).trans m4);have TN:=hid (show ∀ k,W3.heap.size<=k->k∉tall tb B from fun k hk=>TN0.out k (Nat.le_trans B3.out.size hk));obtain ⟨Ak,ck,rfl,rk,gk,zk,lk,-⟩:=g5l hk4;obtain ⟨An,cn,rfl,rn,gn,zn,ln,-⟩:=g5l hn4
 by_cases hx:x=0
 ·subst hx;obtain ⟨hne,hkl,hnl⟩:=HRR.out _ _ _ _ hR;obtain ⟨g,o,rfl,hg,hc⟩:=rn hne;have hn0:0<ns.length:=List.length_pos_iff.2 hne;have hc0:=hc 0 hn0;have HZ:=hid (show ns.headD 0=ns[0] from j0w _ hn0);obtain ⟨z,hz⟩:∃ z,ns[0]=z:=⟨_,rfl⟩;rw [hz] at hc0 HZ;have hc0':w4.cell? ⟨g,o,none⟩=some (.int .i64 z):=hc0;have hn0':(0:Int)<(ns.length:Int):=by omega
  by_cases hks:ks=[]
  ·subst hks;obtain ⟨nl,hnl'⟩:∃ nl,ns.length=nl:=⟨_,rfl⟩;rw [hnl'] at hn0 hn0';rw [hnl'];have t1:w4.cell? ⟨tb,1,none⟩=some (.int .i64 r):=H4.box.2.2 1 _ rfl;have t2:w4.cell? ⟨tb,2,none⟩=some (.int .i64 dp):=H4.box.2.2 2 _ rfl;have tf:∀ j,w4.frozen? ⟨tb,j,none⟩=false:=H4.box.2.1;have D5:At ((w4.setCell ⟨tb,1,none⟩ (.int .i64 z)).setCell ⟨tb,2,none⟩ (.int .i64 D)) tb (trC B.ss z D c):=at_set (at_set H4.box 1 (.int .i64 z)) 2 (.int .i64 D)
   have m5:Mod [tb] w4 ((w4.setCell ⟨tb,1,none⟩ (.int .i64 z)).setCell ⟨tb,2,none⟩ (.int .i64 D)):=(g0z _ _ _ _).trans (g0z _ _ _ _);have H5:=hid (H4.cells D5 m5);have M5:=hid (M4.out.trans (m5.mono (fun x hx=>by rw [List.mem_singleton] at hx;rw [hx];exact List.mem_cons_self ..)));have HR:=hid (show h7v R D r dp d4 t4 z D 0 from ⟨d4,t4,[],ns,0,hR,.inr (.inl ⟨rfl,rfl,rfl,rfl,rfl,HZ.out.symm,rfl⟩)⟩)
   clear H4 M4 m4 m5 D5 hR cS hk4 hn4 rk gk zk lk rn gn zn ln hc hc0 hz hnl' hnl hkl hne HZ;go_wp2_with fail
   go_ret
   exact ⟨d4,t4,z,D,0,rfl,HR.out,H5.out,M5.out⟩
  ·have hk0:0<ks.length:=List.length_pos_iff.2 hks;have hk0':(0:Int)<(ks.length:Int):=by omega
   obtain ⟨a4,s4⟩:=H4.sto.has;have PR:g0c w4 (g0f ks ns) {A2:=Ak,c2:=ck,A3:=some ⟨g,o,none⟩,c3:=cn}:=⟨fun h=>absurd rfl h,fun _=>rk hks,fun _=>rn hne,fun h=>absurd rfl h⟩;have AP:Apart B.all (g0f ks ns) {A2:=Ak,c2:=ck,A3:=some ⟨g,o,none⟩,c3:=cn}:=⟨fun h=>absurd rfl h,fun _ x e hx=>TN.out _ (gk x e) (List.mem_cons_of_mem _ hx),fun _ x e hx=>TN.out _ (gn x e) (List.mem_cons_of_mem _ hx),fun h=>absurd rfl h⟩
   have cL:=g6t s4 0 ⟨by show _<=(0:Int);omega,by show (0:Int)<=_;omega⟩ (g0f ks ns) {A2:=Ak,c2:=ck,A3:=some ⟨g,o,none⟩,c3:=cn} (h5x hkl hnl) PR AP;obtain ⟨kl,hkl'⟩:∃ kl,ks.length=kl:=⟨_,rfl⟩;obtain ⟨nl,hnl'⟩:∃ nl,ns.length=nl:=⟨_,rfl⟩;have e1:pgV (g0f ks ns) {A2:=Ak,c2:=ck,A3:=some ⟨g,o,none⟩,c3:=cn}=.agg #[.int .i64 2,.slice none 0 0,.slice Ak kl ck,.slice (some ⟨g,o,none⟩) nl cn,.slice none 0 0,.int .i64 0,.int .u64 0,.int .i64 0,.int .i64 0,.int .i64 0,.int .i64 0]:=by rw [<- hkl',<- hnl'];rfl
   rw [e1] at cL;rw [hkl'] at hk0 hk0';rw [hkl',hnl'];have t0:w4.cell? ⟨tb,0,none⟩=some (ptr B.ss):=H4.box.2.2 0 _ rfl;have H4':=hid H4;have HR4:=hid hR;have HKS:=hid hks;clear H4 m4 hR cS hk4 hn4 rk gk zk lk rn gn zn ln hc hc0 hz hnl' hkl' hnl hkl hne HZ s4 PR AP e1 hks;go_wp2_with fail
   refine cL.mono ?_;rintro e w5 ⟨d5,t5,nn,x2,rfl,hl,hs5,m5⟩;have H5:=H4'.out.store hs5 m5;have M5:=hid (M4.out.trans (m5.mono (fun x hx=>List.mem_cons_of_mem _ hx)))
   by_cases hx2:x2=0
   ·subst hx2;have a6:=at_new w5 #[.int .i64 nn] 3;have b6:=Pool.g0a w5 (.cells #[.int .i64 nn] 3);obtain ⟨W6,hW6⟩:∃ W6,w5.alloc (.cells #[.int .i64 nn] 3)=W6:=⟨_,rfl⟩;rw [hW6] at a6 b6;have H6:=H5.quiet b6;have k6:W6.cell? ⟨w5.heap.size,0,none⟩=some (.int .i64 nn):=a6.2.2 0 _ rfl;have t1:W6.cell? ⟨tb,1,none⟩=some (.int .i64 r):=H6.box.2.2 1 _ rfl;have t2:W6.cell? ⟨tb,2,none⟩=some (.int .i64 dp):=H6.box.2.2 2 _ rfl
    have tf:∀ j,W6.frozen? ⟨tb,j,none⟩=false:=H6.box.2.1;have D7:At ((W6.setCell ⟨tb,1,none⟩ (.int .i64 nn)).setCell ⟨tb,2,none⟩ (.int .i64 (D+1))) tb (trC B.ss nn (D+1) c):=at_set (at_set H6.box 1 (.int .i64 nn)) 2 (.int .i64 (D+1));have m7:Mod [tb] W6 ((W6.setCell ⟨tb,1,none⟩ (.int .i64 nn)).setCell ⟨tb,2,none⟩ (.int .i64 (D+1))):=(g0z _ _ _ _).trans (g0z _ _ _ _);have H7:=hid (H6.cells D7 m7)
    have M7:=hid ((M5.out.trans (Mod.of_below _ b6)).trans (m7.mono (fun x hx=>by rw [List.mem_singleton] at hx;rw [hx];exact List.mem_cons_self ..)));have HR:=hid (show h7v R D r dp d5 t5 nn (D+1) 0 from ⟨d4,t4,ks,ns,0,HR4.out,.inr (.inr ⟨rfl,HKS.out,nn,0,hl,.inr ⟨rfl,rfl,rfl,rfl⟩⟩)⟩);clear H6 H5 M5 m5 m7 D7 a6 b6 hl hs5 cL;go_wp2_with fail
    go_ret
    exact ⟨d5,t5,nn,D+1,0,rfl,HR.out,H7.out,M7.out⟩
   ·have dx:(x2 != 0)=true:=by simp [hx2]
    have HR:=hid (show h7v R D r dp d5 t5 r dp x2 from ⟨d4,t4,ks,ns,0,HR4.out,.inr (.inr ⟨rfl,HKS.out,nn,x2,hl,.inl ⟨hx2,rfl,rfl,rfl⟩⟩)⟩);have H5':=hid H5;clear H5 m5 hl hs5 cL hx2;go_wp2_with fail
    go_ret
    exact ⟨d5,t5,r,dp,x2,rfl,HR.out,H5'.out,M5.out⟩
 ·have dx:(x != 0)=true:=by simp [hx]
  have HR:=hid (show h7v R D r dp d4 t4 r dp x from ⟨d4,t4,ks,ns,x,hR,.inl ⟨hx,rfl,rfl,rfl,rfl,rfl⟩⟩);have H4':=hid H4;clear hx H4 hR m4 cS hk4 hn4 rk gk zk lk rn gn zn ln;go_wp2_with fail
  go_ret
  exact ⟨d4,t4,r,dp,x,rfl,HR.out,H4'.out,M4.out⟩
end Go.Proofs.YtglejnkoojpelaaGreat.Tree

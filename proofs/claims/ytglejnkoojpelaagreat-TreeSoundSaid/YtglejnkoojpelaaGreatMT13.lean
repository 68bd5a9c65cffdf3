import Derived.Test.YtglejnkoojpelaaGreatMT12
import Derived.Test.YtglejnkoojpelaaGreatMT2
import Derived.Test.YtglejnkoojpelaaGreatMS4
import Derived.Test.YtglejnkoojpelaaGreatMT11
import Derived.Test.YtglejnkoojpelaaGreatMT9
import Derived.Test.YtglejnkoojpelaaGreatMA1
import Derived.Test.YtglejnkoojpelaaGreatMQ3
import Derived.Test.YtglejnkoojpelaaGreatMT1
set_option maxRecDepth 100000
set_option maxHeartbeats 32000000
namespace Go.Proofs.YtglejnkoojpelaaGreat.Tree
open Go.RowKit Gen
open Disk (St Dev Mod ptr)
open Page (Pg Lay PgOk g0c pgC pgV Enc g0v BytesAt strV strB PRow SRow IRow less)
open Pool (Po NAt PoAt La poC poV numV At g0k g1g g1k g2m g0g OwnI chunks layAll May)
open Store
open Lib (hid)
theorem k1h {d:St} {t:T} {p:Pg} {os:List Int} {d':St} {t':T} {ks:List Disk.Bs} {ns:List Int} (h:g2n d t p os d' t' ks ns 0):ns.length=ks.length+1:=by
 obtain ⟨t1,os1,x1,-,⟨hx,_,_,_,_,h0⟩ | ⟨-,hl,rfl⟩⟩:=h
 ·exact absurd h0.symm hx
 have e:=h9g hl rfl;rw [if_pos rfl];unfold g4h at e;unfold g6m
 split at e <;> rename_i hh
 ·rw [if_pos hh];simpa using e
 ·rw [if_neg hh];simpa using e
structure h7f (s:Stp):Prop where
 kind:s.p.kind=2
 keys:s.p.keys≠[]
 few:s.p.keys.length<=100
 kids:s.p.kids.length=s.p.keys.length+1
 pairs:s.p.pairs.length=0
 kid:∃ k:Nat,s.kid=(k:Int)/\k<s.p.kids.length
 nums:∀ x∈s.p.kids,I64 x
theorem h7f.treed {s:Stp} (h:h7f s):g6j s.p :=
 ⟨.inr h.kind,⟨by rw [h.pairs];omega,by have:=h.few;omega⟩,fun _=>h.kids,fun e=>by rw [h.kind] at e;exact absurd e (by decide)⟩
theorem j2w {s:Stp} (h:h7f s) {f l:Nat} (hf:f<=l) (hl:l<=s.p.keys.length) {ks:List Disk.Bs} {ns:List Int} (hk:ks.length<=1) (hn:ns.length=ks.length+1):g6j (p3m s f l ks ns):=by
 have h1:=h.few;have h2:=h.kids;refine ⟨.inr rfl,⟨Nat.zero_le _,?_⟩,fun _=>?_,fun e=>absurd e (show ¬ (2:Int)=1 by decide)⟩
 ·show (s.p.keys.take f++ks++s.p.keys.drop l).length<=400;simp;omega
 ·show (s.p.kids.take f++ns++s.p.kids.drop (l+1)).length=(s.p.keys.take f++ks++s.p.keys.drop l).length+1;simp;omega
theorem k1k {s:Stp} (h:h7f s) {b b':Pg} {d d':St} {t t':T} (g:PutR s b d t d' t' b' 0):g6j b':=by
 obtain ⟨k,hk,hkl⟩:=h.kid;have e:s.kid.toNat=k:=by rw [hk];rfl
 have h2:=h.kids;have h3:0<s.p.keys.length:=List.length_pos_iff.2 h.keys;have key:∀ pp f l,f<=l->l<=s.p.keys.length->PutT s pp f l d t d' t' b' 0->g6j b':=fun pp f l hf hl ⟨ks,ns,hs,hb⟩=>by
  rcases hb with ⟨hx,-⟩ | ⟨-,rfl⟩
  ·exact absurd rfl hx
  ·exact j2w h hf hl (h7m hs).1 (k1h hs)
 rcases g with ⟨-,g⟩ | ⟨-,⟨-,-,-,hx,-⟩ | ⟨q,-,g⟩⟩
 ·exact key _ _ _ (Nat.le_refl _) (by omega) g
 ·exact absurd hx.symm (h0d d _)
 ·exact key _ _ _ (by omega) (by omega) g
theorem k6p {d:St} {a kd:Int} {p:Pg} (hk:kd=1\/kd=2) (h:PgAt d a kd p):g6j p:=by
 have hp:=h.2.2;rcases hk with rfl | rfl
 ·obtain ⟨h1,h2,h3,-⟩:=(Page.h6f hp).1 (g2l h);exact ⟨.inl hp,⟨by have:=h1.len.2;omega,by omega⟩,fun e=>by rw [hp] at e;exact absurd e (by decide),fun _=>List.length_eq_zero_iff.1 h3⟩
 ·obtain ⟨h1,h2,-⟩:=(Page.g7x hp).1 (g2l h);exact ⟨.inr hp,⟨by omega,by have:=h1.len.2;omega⟩,fun _=>h1.kids,fun e=>by rw [hp] at e;exact absurd e (by decide)⟩
theorem h5k {d:St} {key:Disk.Bs} {r a:Int} {l:List Stp} (h:Down d key r l a):∀ s∈l,h7f s:=by
 induction h with
 | nil=>exact fun s hs=>by cases hs
 | @snoc a l s h ha hp hk hi ih =>
  intro x hx;rcases List.mem_append.1 hx with hx | hx
  ·exact ih x hx
  ·rw [List.mem_singleton] at hx;subst hx;obtain ⟨h1,h2,-⟩:=(Page.g7x hp.2.2).1 (g2l hp);refine ⟨hp.2.2,fun e=>by have:=h1.len.1;rw [e] at this;simp at this,by have:=h1.len.2;omega,h1.kids,h2,⟨_,hk,hi⟩,fun z hz=>?_⟩;have:=h1.places z hz;unfold Page.Place at this;exact ⟨by omega,by omega⟩
theorem h6i {w0 w w1:World} {B:Blk} {tb:Nat} {d:St} {t:T} {r dp c:Int} (h:TrOn w0 w B tb d t r dp c) {v:Value} {l:List Stp} {s:Stp} (hv:Way w1 w v (l++[s])) (hw1:w1.heap.size<=w.heap.size) (hlow:∀ k∈tall tb B,k<w1.heap.size) (hln:l.length<=900) (hat:I64 ((l++[s]).head (by simp)).at_) (hB:∀ s∈l,h7f s) (p:Pg) (y:Lay) (hr:g0c w p y) (hn:Page.New p y w1.heap.size) (hok:PgOk p) (hT:g6j p) :
 Calls Tryz.prog 141 #[ptr tb,v,pgV p y] w (g8h (g4w PutR (CRel ((l++[s]).head (by simp)).at_ ((l.length+1:Nat):Int) r dp) r dp l.reverse p d t) w0 B tb c w):=by
 refine j1b (Q:=g6j) h hv hw1 hlow (by omega) p y hr hn hok hT (fun s hs b d t d' t' b' g=>k1k (hB s hs) g) (fun b hb=>⟨by have:=hb.len.2;omega,by have:=hb.kl;omega⟩) (fun s hs=>⟨by have:=(hB s hs).few;omega,by have:=(hB s hs).few;have:=(hB s hs).kids;omega⟩) (fun X W d1 t1 s b yb hs hW H hR hRb hN hO hNb hOb hb=>?_) (fun X W d1 t1 b yb hW H hR hN hO hb=>?_)
 ·have g:=hB s hs;obtain ⟨k,hk,hkl⟩:=g.kid;exact p1i H s b yb hR hRb hN hNb hOb hlow (Nat.le_trans hw1 hW) hb g.treed g.kind g.keys k hk hkl g.nums (fun n q hq=>k6p hb.kind hq)
 ·exact j8z H _ hat _ ⟨by omega,by omega⟩ b yb hR hN hlow hO hb
theorem k1u {d:St} {key:Disk.Bs} {r a:Int} {l:List Stp} (h:Down d key r l a):(l=[]/\a=r)\/∃ x xs,l=x :: xs/\x.at_=r:=by
 induction h with
 | nil=>exact .inl ⟨rfl,rfl⟩
 | @snoc a l s h ha hp hk hi ih =>
  rcases ih with ⟨rfl,rfl⟩ | ⟨x,xs,rfl,hx⟩
  ·exact .inr ⟨s,[],rfl,ha⟩
  ·exact .inr ⟨x,xs++[s],rfl,hx⟩
theorem h3t {d:St} {key:Disk.Bs} {r:Int} {dp:Nat} {l:List Stp} {s:Stp} (h:WayP d key r dp l s):((l++[s]).head (by simp)).at_=r:=by
 rcases k1u h.1 with ⟨rfl,e⟩ | ⟨x,xs,rfl,e⟩
 ·exact e
 ·exact e
theorem h9z {np:List (Disk.Bs×Disk.Bs)} (h:np.length<=400):PgOk (g0j np)/\g6j (g0j np) :=
 ⟨⟨g1y.kind, by show np.length ≤ _; omega, g1y.keys, g1y.kids, g1y.pages, g1y.next, g1y.epoch, g1y.root, g1y.depth, g1y.count, g1y.high⟩,
  ⟨.inl rfl,⟨h,Nat.zero_le _⟩,fun e=>absurd e (show ¬ (1:Int)=2 by decide),fun _=>rfl⟩⟩
abbrev UpD (r:Int) (m:Nat) (d:St) (t:T) (l:List Stp) (np:List (Disk.Bs×Disk.Bs)):St->T->Int->Int->Int->Prop:=g4w PutR (CRel r ((m+1:Nat):Int) r ((m+1:Nat):Int)) r ((m+1:Nat):Int) l.reverse (g0j np) d t
theorem k7o {w0 w:World} {B:Blk} {tb:Nat} {d:St} {t:T} {r c:Int} {m:Nat} (hm:m<=40) (h:TrOn w0 w B tb d t r ((m+1:Nat):Int) c) (hr64:I64 r) (hc:0<=c/\c<=1000000) (key val:Disk.Bs) (hk1:1<=key.length) (hk2:key.length<=48) (hv:val.length<=100) :
 Calls Tryz.prog 48 #[ptr tb,strV key,strV val] w (p1w (g6s (WayP d key r (m+1)) (WayQ d key r (m+1)) (fun l _ np=>UpD r m d t l np) (fun l=>setP l key val) d t r ((m+1:Nat):Int) c) numV w0 B tb w):=by
 refine p0d h key val hk1 hk2 hv (fun W kb vb eb hb H ck cv=>?_);obtain ⟨a,s⟩:=H.sto.has;refine h7y H key val ck cv hc (fun l s hp=>by have:=g5i hp;exact ⟨this.1,by omega⟩) (h1s s hm H.box key) (fun W' v l s' np y hw' hp hnp hwy hr hn _ H'=>?_);have hl:np.length<=400:=by
  rw [hnp];have:=h4t s'.p.pairs key val;have:=(g5i hp).2;omega
 have hlen:=hp.2.1;have g:=h6i H' hwy hw' (fun k hk=>?_) (by omega) (by rw [h3t hp];exact hr64) (h5k hp.1) (g0j np) y hr hn (h9z hl).1 (h9z hl).2
 ·rw [h3t hp,show l.length+1=m+1 from hlen] at g;exact g
 ·rcases List.mem_cons.1 hk with rfl | hk
  ·exact H.box.1
  ·exact s.lt _ hk
theorem k7c {w0 w:World} {B:Blk} {tb:Nat} {d:St} {t:T} {r c:Int} {m:Nat} (hm:m<=40) (h:TrOn w0 w B tb d t r ((m+1:Nat):Int) c) (hr64:I64 r) (hc:0<=c/\c<=1000000) (key:Disk.Bs) :
 Calls Tryz.prog 52 #[ptr tb,strV key] w (h6b (CutD (WayP d key r (m+1)) (WayQ d key r (m+1)) (fun l _ np=>UpD r m d t l np) key d t r ((m+1:Nat):Int) c) w0 B tb w):=by
 refine k1p h key (fun W kb bb eb hb hbb h0b H ck cb=>?_);obtain ⟨a,s⟩:=H.sto.has;refine h2m H key ck cb hbb (by simp) h0b hc (fun l s hp=>by have:=g5i hp;exact ⟨this.1,by omega⟩) (h1s s hm H.box key) (fun W' v l s' np y hw' hp hnp hwy hr hn _ H'=>?_);have hl:np.length<=400:=by
  rw [hnp];have:=g9x s'.p.pairs key;have:=(g5i hp).2;omega
 have hlen:=hp.2.1;have g:=h6i H' hwy hw' (fun k hk=>?_) (by omega) (by rw [h3t hp];exact hr64) (h5k hp.1) (g0j np) y hr hn (h9z hl).1 (h9z hl).2
 ·rw [h3t hp,show l.length+1=m+1 from hlen] at g;exact g
 ·rcases List.mem_cons.1 hk with rfl | hk
  ·exact H.box.1
  ·exact s.lt _ hk
open Page (Pg Lay PgOk g0c pgC pgV Enc g0v BytesAt strV)
abbrev T0:T:=newT h6e (g4d (g1q h6e 0 0 0) h6e []) []
theorem k4u (n:Nat) (h0:2<=n) (h1:n<=4096) (w:World):Calls Tryz.prog 16 #[.int .i64 (n:Int)] w (fun e w'=>∃ B tb d1,e=.returned (ptr tb)/\TrOn w w' B tb d1 T0 0 0 0/\Store.Safe d1 T0/\Store.Calm d1/\d1.n=n):=by
 have cN:Calls Tryz.prog 53 #[.int .i64 (n:Int)] w _:=Disk.p0w n w h0 h1;go_enter Tryz.func16,Tryz.ntmps16
 go_wp2_with fail
 refine cN.mono ?_;rintro e w1 ⟨rfl,hd1,b1⟩;have cF:=k0l hd1 (by exact h0);have B1:=hid b1;clear hd1 b1 cN;go_wp2_with fail
 refine cF.mono ?_;rintro e w3 ⟨d1,t1,x,hc,m3,hx⟩;obtain ⟨rfl,rfl,sf1,cm1,n1⟩:=k3m h0 h1 hc;rcases hx with ⟨hx,-⟩ | ⟨-,B,rfl,g1,g2,g3,g4,g5,hs⟩
 ·exact absurd rfl hx
 have S3:=hid (show SOn w w3 B d1 T0 from ⟨hs,B1.out.trans (m3.below B1.out.size (fun k hk=>by simp at hk;omega)),fun k hk=>by
  have:=B1.out.size;simp only [Blk.all,List.mem_cons,List.not_mem_nil,or_false] at hk;omega⟩)
 have SF1:=hid sf1;have CM1:=hid cm1;have N1:=hid n1;have cO:=p3l S3.out;clear hc m3 sf1 cm1 n1 g1 g2 g3 g4 g5 hs cF B1;go_wp2_with fail
 refine cO.mono ?_;rintro e w4 ⟨rfl,H4,b4⟩;have H4':=hid H4;clear H4 b4 cO;go_wp2_with fail
 go_ret
 exact ⟨_,_,d1,rfl,H4'.out,SF1.out,CM1.out,N1.out⟩
open Page (Pg Lay PgOk g0c pgC pgV Enc g0v BytesAt strV strB PRow less Lt g1l g3h)
structure Hold (k:Nat) (d:St) (t:T) (r dp c:Int) (es:Ents) (K:Nat):Prop where
 good:Good d t r dp c es K
 safe:Store.Safe d t
 few:es.length<=k
 cold:K<=130
 own:t.own.length<=21
 ep:t.sup.epoch<=k+10
 n:d.n=2000
theorem Hold.more {k m:Nat} {d:St} {t:T} {r dp c:Int} {es:Ents} {K:Nat} (h:Hold k d t r dp c es K) (hm:k<=m):Hold m d t r dp c es K :=
 ⟨h.good,h.safe,by have:=h.few;omega,h.cold,h.own,by have:=h.ep;omega,h.n⟩
theorem Hold.room {k:Nat} {d:St} {t:T} {r dp c:Int} {es:Ents} {K:Nat} (h:Hold k d t r dp c es K) (hk:k<=240):(dp=0\/∃ m:Nat,dp=((m+1:Nat):Int)/\m<9)/\1000<=g1b t d.n:=by
 have h1:=h.few;obtain ⟨g1,g2⟩:=h.good.room (by omega);have h2:=h.cold;have h3:=h.own;have h4:=h.n;exact ⟨g1,by omega⟩
theorem Hold.cnt {k:Nat} {d:St} {t:T} {r dp c:Int} {es:Ents} {K:Nat} (h:Hold k d t r dp c es K) (hk:k<=240):0<=c/\c<=1000000:=by
 have:=h.good.cnt;have:=h.few;omega
theorem Hold.root {k:Nat} {d:St} {t:T} {r dp c:Int} {es:Ents} {K:Nat} (h:Hold k d t r dp c es K):I64 r:=by
 rcases h.good.tree with ⟨-,rfl,-⟩ | ⟨m,ps,-,hT,hb⟩
 ·exact ⟨by omega,by omega⟩
 ·have:=hb.place_ h.good.pre.pk h.good.pre.nle (g7o hT);unfold Page.Place at this;exact ⟨by omega,by omega⟩
theorem Hold.next {k:Nat} {d d':St} {t t':T} {r dp c r' dp' c':Int} {es es':Ents} {K:Nat} (h:Hold k d t r dp c es K) (g:Good d' t' r' dp' c' es' K) (s:Step d t d' t') (hl:es'.length<=es.length+1):Hold (k+1) d' t' r' dp' c' es' K:=by
 have h1:=h.few;have h2:=h.ep;exact ⟨g,s.safe h.safe,by omega,h.cold,by rw [s.part.own];exact h.own,by rw [s.part.sup];omega,by rw [s.n];exact h.n⟩
def Hand (w0 w:World) (B:Blk) (tb k:Nat) (es:Ents):Prop:=∃ d t r dp c K,TrOn w0 w B tb d t r dp c/\Hold k d t r dp c es K
theorem Hand.quiet {w0 w w':World} {B:Blk} {tb k:Nat} {es:Ents} (h:Hand w0 w B tb k es) (b:Below w.heap.size w w'):Hand w0 w' B tb k es:=by
 obtain ⟨d,t,r,dp,c,K,h1,h2⟩:=h;exact ⟨d,t,r,dp,c,K,h1.quiet b,h2⟩
theorem Hand.touch {w0 w w':World} {B:Blk} {tb k:Nat} {es:Ents} (h:Hand w0 w B tb k es) {x:Nat} (hx:x∈B.xs) (hn:x∉tall tb B) (h0:w0.heap.size<=x) (m:Mod [x] w w'):Hand w0 w' B tb k es:=by
 obtain ⟨d,t,r,dp,c,K,h1,h2⟩:=h;exact ⟨d,t,r,dp,c,K,h1.touch hx hn h0 m,h2⟩
theorem Hand.withx {w0 w w':World} {B:Blk} {tb k:Nat} {es:Ents} (h:Hand w0 w B tb k es) (b:Below w.heap.size w w') {x:Nat} (h1:w.heap.size<=x) (h2:x<w'.heap.size):Hand w0 w' (h1r B x) tb k es:=by
 obtain ⟨d,t,r,dp,c,K,h3,h4⟩:=h;exact ⟨d,t,r,dp,c,K,h3.withx b h1 h2,h4⟩
theorem Hand.more {w0 w:World} {B:Blk} {tb k m:Nat} {es:Ents} (h:Hand w0 w B tb k es) (hm:k<=m):Hand w0 w B tb m es:=by
 obtain ⟨d,t,r,dp,c,K,h1,h2⟩:=h;exact ⟨d,t,r,dp,c,K,h1,h2.more hm⟩
theorem Hand.sorted {w0 w:World} {B:Blk} {tb k:Nat} {es:Ents} (h:Hand w0 w B tb k es):g1u es:=by
 obtain ⟨d,t,r,dp,c,K,h1,h2⟩:=h;exact h2.good.sorted
theorem Hand.few {w0 w:World} {B:Blk} {tb k:Nat} {es:Ents} (h:Hand w0 w B tb k es):es.length<=k:=by
 obtain ⟨d,t,r,dp,c,K,h1,h2⟩:=h;exact h2.few
theorem Hand.tall {w0 w:World} {B:Blk} {tb k:Nat} {es:Ents} (h:Hand w0 w B tb k es) {n:Nat} (hn:w.heap.size<=n):n∉tall tb B:=by
 obtain ⟨d,t,r,dp,c,K,h1,h2⟩:=h;exact g3r h1 hn
theorem k7m (es:Ents) (key:Disk.Bs):(cutP es key).length<=es.length:=g9x es key
theorem p2a {w0 w:World} {B:Blk} {tb k:Nat} {es:Ents} (h:Hand w0 w B tb k es) (hk:k<=240) (key val:Disk.Bs) (hk1:1<=key.length) (hk2:key.length<=48) (hv:val.length<=100) :
 Calls Tryz.prog 48 #[ptr tb,strV key,strV val] w (fun e w'=>e=.returned (.int .i64 0)/\Hand w0 w' B tb (k+1) (setP es key val)/\Mod (tall tb B) w w'):=by
 obtain ⟨d,t,r,dp,c,K,h1,h2⟩:=h;obtain ⟨hdp,hav⟩:=h2.room hk;have hpre:=h2.good.pre;have hlen:=h4t es key val;rcases hdp with rfl | ⟨m,rfl,hm⟩
 ·refine (j1r h1 (h2.cnt hk) key val hk1 hk2 hv).mono ?_;rintro e w' ⟨d',t',r',dp',c',x,rfl,hR,m1,hok,-⟩;have st:=h4h hpre (fun l s np d' t' r' dp' x h=>h1v hpre h hpre.refl) hR;rcases j9n h2.good key val ⟨hk1,hk2⟩ hv hR with ⟨-,h⟩ | ⟨rfl,g,-⟩
  ·omega
  ·exact ⟨rfl,⟨d',t',r',dp',c',K,hok rfl,h2.next g st hlen⟩,m1⟩
 ·refine (k7o (m:=m) (by omega) h1 h2.root (h2.cnt hk) key val hk1 hk2 hv).mono ?_;rintro e w' ⟨d',t',r',dp',c',x,rfl,hR,m1,hok,-⟩;have st:=h4h hpre (fun l s np d' t' r' dp' x h=>h6r hpre h hpre.refl) hR;rcases k6i h2.good key val ⟨hk1,hk2⟩ hv hR with ⟨-,h⟩ | ⟨rfl,g,-⟩
  ·omega
  ·exact ⟨rfl,⟨d',t',r',dp',c',K,hok rfl,h2.next g st hlen⟩,m1⟩
theorem p0i {w0 w:World} {B:Blk} {tb k:Nat} {es:Ents} (h:Hand w0 w B tb k es) (hk:k<=240) (key:Disk.Bs) :
 Calls Tryz.prog 52 #[ptr tb,strV key] w (fun e w'=>e=.returned (.tuple #[.bool (g2j (keysOf es) key),.int .i64 0])/\Hand w0 w' B tb (k+1) (cutP es key)/\Mod (tall tb B) w w'):=by
 obtain ⟨d,t,r,dp,c,K,h1,h2⟩:=h;obtain ⟨hdp,hav⟩:=h2.room hk;have hpre:=h2.good.pre;have hlen:=k7m es key;rcases hdp with rfl | ⟨m,rfl,hm⟩
 ·refine (j6y h1 (h2.cnt hk) key).mono ?_;rintro e w' ⟨d',t',r',dp',c',x,had,rfl,hR,m1,hok,-⟩;have st:=j1c hpre (fun l s np d' t' r' dp' x h=>h1v hpre h hpre.refl) hR;obtain ⟨rfl,rfl,g,-⟩:=k4k h2.good key hR;exact ⟨by simp [numV],⟨d',t',r',dp',c',K,hok rfl,h2.next g st (by omega)⟩,m1⟩
 ·refine (k7c (m:=m) (by omega) h1 h2.root (h2.cnt hk) key).mono ?_;rintro e w' ⟨d',t',r',dp',c',x,had,rfl,hR,m1,hok,-⟩;have st:=j1c hpre (fun l s np d' t' r' dp' x h=>h6r hpre h hpre.refl) hR;obtain ⟨rfl,⟨-,h⟩ | ⟨rfl,g,-⟩⟩:=k8h h2.good key hR
  ·omega
  ·exact ⟨by simp [numV],⟨d',t',r',dp',c',K,hok rfl,h2.next g st (by omega)⟩,m1⟩
theorem p1u {w0 w:World} {B:Blk} {tb k:Nat} {es:Ents} (h:Hand w0 w B tb k es) (hk:k<=240) (key:Disk.Bs) :
 Calls Tryz.prog 49 #[ptr tb,strV key] w (fun e w'=>e=.returned (.tuple #[strV (valOf es key),.bool (g2j (keysOf es) key),.int .i64 0])/\Below w.heap.size w w'):=by
 obtain ⟨d,t,r,dp,c,K,h1,h2⟩:=h;obtain ⟨hdp,hav⟩:=h2.room hk;rcases hdp with rfl | ⟨m,rfl,hm⟩
 ·have hes:es=[]:=by
   rcases h2.good.tree with ⟨-,-,e,-⟩ | ⟨m,ps,e,-⟩
   ·exact e
   ·omega
  subst hes;refine (j4o h1 key (P:=NilP) (Q:=fun _=>False) (fun l s hp=>by have:=h4o hp;exact ⟨this.1,by omega⟩) (fun W hb=>j2t (h1.quiet hb).box key)).mono ?_;rintro e w' (⟨l,s,⟨rfl,rfl⟩,rfl,bl⟩ | ⟨x,hq,_⟩)
  ·exact ⟨rfl,bl⟩
  ·exact hq.elim
 ·refine (j4o h1 key (P:=WayP d key r (m+1)) (Q:=WayQ d key r (m+1)) (fun l s hp=>by have:=g5i hp;exact ⟨this.1,by omega⟩) (fun W hb=>?_)).mono ?_
  ·obtain ⟨a,s⟩:=(h1.quiet hb).sto.has;exact h1s s (m:=m) (by omega) (h1.quiet hb).box key
  ·rintro e w' (⟨l,s,hp,rfl,bl⟩ | ⟨x,hq,_⟩)
   ·obtain ⟨e1,e2⟩:=k9m h2.good key hp;rw [e1,e2];exact ⟨rfl,bl⟩
   ·rcases h2.good.tree with ⟨h0,-⟩ | ⟨m',ps,h0,hT,hb⟩
    ·omega
    ·obtain rfl:m'=m:=by omega
     exact absurd hq (h2c hT)
def p0u (w0 w:World) (B:Blk) (tb k:Nat) (es:Ents):Prop:=∃ d t r dp c K,TrOn w0 w B tb d t r dp c/\Hold k d t r dp c es K/\Kept d t r dp c es
theorem k7w {w0 w:World} {B:Blk} {tb k:Nat} {es:Ents} (h:Hand w0 w B tb k es) (hk:k<=240) :
 Calls Tryz.prog 20 #[ptr tb] w (fun e w'=>e=.returned (.int .i64 0)/\p0u w0 w' B tb (k+1) es/\Mod (tall tb B) w w'):=by
 obtain ⟨d,t,r,dp,c,K,h1,h2⟩:=h;obtain ⟨hdp,hav⟩:=h2.room hk;have hf:=h2.few;have hc:=h2.cnt hk;have hd:I64 dp:=by
  rcases hdp with rfl | ⟨m,rfl,hm⟩
  ·exact ⟨by omega,by omega⟩
  ·exact ⟨by omega,by omega⟩
 have ho:∀ x∈t.own,I64 x:=fun x hx=>by
  obtain ⟨ps,hb,-⟩:=h2u h2.good.tree;have h3:2<=x/\x<t.pool.high:=(hb.acct.own x hx).1;have h4:=h2.good.pre.pk.top;have h5:=h2.good.pre.nle;exact ⟨by omega,by omega⟩
 refine (j6k h1 h2.root hd ⟨by omega,by omega⟩ (by have:=h2.own;omega) ho).mono ?_;rintro e w' ⟨d',t',x,rfl,hC,m1,hok,-⟩;obtain ⟨rfl,g,kp,g1,g2,g3⟩:=k4v h2.good (by omega) (by have:=h2.ep;omega) (by omega) (by have:=h2.n;omega) hC;have h5:=h2.ep;exact ⟨rfl,⟨d',t',r,dp,c,_,hok rfl,⟨g,kp.safe,by omega,by omega,g1,by omega,by rw [g3];exact h2.n⟩,kp⟩,m1⟩
theorem p0u.hand {w0 w:World} {B:Blk} {tb k:Nat} {es:Ents} (h:p0u w0 w B tb k es):Hand w0 w B tb k es:=by
 obtain ⟨d,t,r,dp,c,K,h1,h2,-⟩:=h;exact ⟨d,t,r,dp,c,K,h1,h2⟩
theorem k4t:Book T0 [] 0:=⟨⟨fun x hx=>(by cases hx),fun x hx=>(by cases hx),List.nodup_nil,rfl⟩,Nat.le_refl _⟩
theorem p2g (w:World):Calls Tryz.prog 16 #[.int .i64 2000] w (fun e w'=>∃ B tb,e=.returned (ptr tb)/\Hand w w' B tb 0 []/\Below w.heap.size w w'):=by
 refine (k4u 2000 (by omega) (by omega) w).mono ?_;rintro e w' ⟨B,tb,d1,rfl,H,sf,cm,hn⟩;exact ⟨B,tb,rfl,⟨d1,T0,0,0,0,0,H,⟨⟨sf.pre,cm,.inl ⟨rfl,rfl,rfl,k4t⟩,rfl⟩,sf,Nat.le_refl _,by omega,by show 0<=21;omega,by show (0+1) % 18446744073709551616<=10;omega,hn⟩⟩,H.below (Mod.refl _ _)⟩
open Page (Pg Lay PgOk g0c pgC pgV Enc g0v BytesAt strV strB g8x PRow less Lt g1l OwnP)
structure g7s (w:World) (lo mb:Nat) (es:Ents):Prop where
 low:lo<=mb
 row:∃ A c,At w mb #[.slice A es.length c]/\PRow w A es/\(A=none->c=0)/\es.length<=c/\(∀ x,A=some x->lo<=x.block/\x.block≠mb)
theorem g7s.mod {w w':World} {S:List Nat} {lo mb:Nat} {es:Ents} (h:g7s w lo mb es) (m:Mod S w w') (hS:∀ k∈S,k<lo):g7s w' lo mb es:=by
 obtain ⟨hl,A,c,h1,h2,h3,h4,h5⟩:=h;refine ⟨hl,A,c,g0l h1 m (fun e=>by have:=hS _ e;omega),fun hne=>?_,h3,h4,h5⟩;obtain ⟨b,o,e,hlt,hc⟩:=h2 hne;have hb:b∉S:=fun e'=>by have:=(h5 _ e).1;have:=hS _ e';simp only at *;omega
 exact ⟨b,o,e,Nat.lt_of_lt_of_le hlt m.size,fun j hj=>⟨(m.cell (p:=⟨b,o+j*2,none⟩) hlt hb).trans (hc j hj).1,(m.cell (p:=⟨b,o+j*2+1,none⟩) hlt hb).trans (hc j hj).2⟩⟩
theorem g7s.below {w w':World} {lo mb:Nat} {es:Ents} (h:g7s w lo mb es) (b:Below w.heap.size w w'):g7s w' lo mb es:=by
 obtain ⟨hl,A,c,h1,h2,h3,h4,h5⟩:=h;exact ⟨hl,A,c,h1.below b h1.1,h2.below b,h3,h4,h5⟩
theorem k8l {es:Ents} {key:Disk.Bs} {k:Nat} (hk:k<=g0s (keysOf es) key) (hlt:k<es.length):(less es[k].1 key=true->k<g0s (keysOf es) key)/\(less es[k].1 key=false->k=g0s (keysOf es) key):=by
 have key2:∀ (l:List Disk.Bs) (k:Nat),k<=g0s l key->(h:k<l.length)->(less l[k] key=true->k<g0s l key)/\(less l[k] key=false->k=g0s l key):=by
  intro l
  induction l with
  | nil=>exact fun k _ h=>absurd h (by simp)
  | cons a r ih =>
   intro k hk h;rw [g5d] at hk ⊢;cases k with
   | zero =>
    constructor
    ·intro e;have e:less a key=true:=e;rw [if_pos e];omega
    ·intro e;have e:less a key=false:=e;rw [if_neg (by rw [e];decide)]
   | succ k =>
    by_cases e:less a key=true
    ·rw [if_pos e] at hk ⊢;have:=ih k (by omega) (by simpa using h);exact ⟨fun g=>by have:=this.1 g;omega,fun g=>by have:=this.2 g;omega⟩
    ·rw [if_neg e] at hk;omega
 have:=key2 (keysOf es) k hk (by rw [g4t];exact hlt)
 simpa using this
theorem j3r {es:Ents} {key:Disk.Bs}:g0s (keysOf es) key<=es.length:=by
 have:=h0l (keysOf es) key;rw [g4t] at this;exact this
theorem k1l (w:World) (mb:Nat) (A:Option Addr) (n c:Nat) (es:Ents) (key:Disk.Bs) (hl:es.length=n) (hn:n<=1000000) (hA:At w mb #[.slice A n c]) (hR:PRow w A es) (pos:Nat) (hpos:g0s (keysOf es) key=pos) (has:Bool) (hhas:g2j (keysOf es) key=has) :
 Calls Tryz.prog 99 #[ptr mb,strV key] w (fun e w'=>e=.returned (.tuple #[.int .i64 (pos:Int),.bool has])/\Below w.heap.size w w'):=by
 have HL:=hid hl;have HR:=hid hR;have HP:=hid hpos;have HH:=hid hhas;have HAT:=hid hA;have HPA:=hid (show pos<=n from by rw [<- hpos,<- hl];exact j3r);obtain ⟨X,hX⟩:∃ X,strB key=X:=⟨_,rfl⟩;have HX:=hid hX;rw [show strV key=.string X by rw [<- hX]];clear hl hR hpos hhas hA hX;go_enter Tryz.func99,Tryz.ntmps99
 go_wp2_with fail
 go_loopw [6] (fun i wr=>∃ k:Nat,i=.int .i64 (k:Int)/\k<=pos/\Hid (Page.Drew w wr)) (fun i _=>n-(intOf i).toNat)
 case atStart=>exact ⟨0,rfl,Nat.zero_le _,hid (Page.Drew.refl _)⟩
 case round =>
  obtain ⟨k,rfl,hk,BW⟩:=hrel;have c0:wr.cell? ⟨mb,0,none⟩=some (.slice A n c):=by rw [BW.out.cell];exact HAT.out.2.2 0 _ rfl
  by_cases hlt:k<n
  ·have hkl:k<es.length:=by rw [HL.out];exact hlt
   have hwr:IntKind.i64.wrap ((k:Int)+1)=(k:Int)+1:=IntWalk.i64_in _ (by omega);have PS:=hid (k8l (es:=es) (key:=key) (k:=k) (by rw [HP.out];exact hk) hkl);obtain ⟨b,off,rfl,hbl,hcl⟩:=HR.out (by intro e;rw [e] at hkl;simp at hkl);obtain ⟨g1,-⟩:=hcl k hkl;have q1:wr.cell? ⟨b,off+k*2,none⟩=some (strV es[k].1):=by rw [BW.out.cell];exact g1
   obtain ⟨Y,hY⟩:∃ Y,strB es[k].1=Y:=⟨_,rfl⟩;rw [show strV es[k].1=.string Y by rw [<- hY]] at q1;have LS:=hid (show Op.bytesLess Y.toList X.toList=less es[k].1 key from by rw [<- hY,<- HX.out];unfold strB;simp [less]);have EQ:=hid (show (Y.toList==X.toList)=decide (es[k].1=key) from by rw [<- hY,<- HX.out];exact g8x _ _);have t1:(k:Int)<(n:Int):=by omega
   have t2:(0:Int)<=(k:Int):=by omega
   have HG:=hid (show ∀ h:k=pos,decide (es[k].1=key)=has from fun h=>by
    rw [<- HH.out];unfold g2j;rw [HP.out,<- h,List.getElem?_eq_getElem (by rw [g4t];exact hkl)];rw [Bool.eq_iff_iff];simp)
   clear g1 hcl hY;rcases hbl':less es[k].1 key with _ | _
   ·have d1:Op.bytesLess Y.toList X.toList=false:=LS.out.trans hbl';have hkp:=PS.out.2 hbl';rw [HP.out] at hkp;subst hkp;have d2:(Y.toList==X.toList)=has:=EQ.out.trans (HG.out rfl);clear LS EQ HG PS hbl';go_wp2_with fail
    go_quiet (fail)
    go_wp2_with fail
    go_ret2
    exact ⟨rfl,(BW.out.drewN _).below _⟩
   ·have d1:Op.bytesLess Y.toList X.toList=true:=LS.out.trans hbl';have hkp:=PS.out.1 hbl';rw [HP.out] at hkp;clear LS EQ HG PS hbl';go_wp2_with fail
    go_roundw
    case rel=>exact ⟨k+1,rfl,by omega,BW⟩
    case measure=>simp [intOf];omega
  ·have hkp:k=pos:=by have:=HPA.out;omega
   have hkn:k=n:=by have:=HPA.out;omega
   subst hkp;have hf:has=false:=by
    rw [<- HH.out];unfold g2j;rw [HP.out,List.getElem?_eq_none (by rw [g4t,HL.out];omega)]
    rfl
   subst hf;clear HH;go_wp2_with fail
   go_quiet (fail)
   go_wp2_with fail
   go_ret2
   exact ⟨rfl,(BW.out.drewN _).below _⟩
open Page (Pg Lay PgOk g0c pgC pgV Enc g0v BytesAt strV strB PRow less Lt g1l OwnP)
open Pool (Po NAt PoAt La poC poV numV At g0k g1g g1k g2m g0g OwnI chunks layAll May g0i)
theorem h4k (W:World):OwnP (W.alloc (.cells #[] 49)) W.heap.size (.slice (some ⟨W.heap.size,0,none⟩) 0 0) [] :=
 ⟨rfl,.inr ⟨W.heap.size,0,_,rfl,Nat.le_refl _,heap_alloc_last W _,Nat.le_refl _,by unfold maxLen;omega,rfl,rfl⟩⟩
theorem g7c {w w':World} {A:Option Addr} {l:List (Disk.Bs×Disk.Bs)} (h:PRow w A l) (b:Below w.heap.size w w'):PRow w' A l:=Page.PRow.below h b
theorem k9k (W:World) {A:Option Addr} {n c:Nat} {es:Ents} (hl:es.length=n) (hn:n<=100000) (hA:A=none->c=0) (hc:n<=c) (hR:PRow W A es) {k nx:Nat} (hk:k<=n) (hx:nx<=n) :
 ∃ v1 W1 A2 c2 W2,(Builtin.append_ #[27,27] 27 #[.slice (some ⟨W.heap.size,0,none⟩) 0 0,.slice A k c]).run Tryz.prog (W.alloc (.cells #[] 49))=.ok v1 W1 /\
  (Builtin.append_ #[27,27] 27 #[v1,.slice (sub 2 A c nx) (n-nx) (c-nx)]).run Tryz.prog W1=.ok (.slice A2 (es.take k++es.drop nx).length c2) W2 /\
  PRow W2 A2 (es.take k++es.drop nx)/\(A2=none->c2=0)/\(es.take k++es.drop nx).length<=c2/\(∀ x,A2=some x->W.heap.size<=x.block)/\Below W.heap.size W W1/\Below W.heap.size W W2:=by
 have b0:Below W.heap.size W (W.alloc (.cells #[] 49)):=Pool.g0a W _;obtain ⟨v1,W1,r1,o1,g1,e1⟩:=g2v (W.alloc (.cells #[] 49)) W.heap.size _ [] (h4k W) A k c (es.take k) (by rw [List.length_take];omega) hA (g8j (g7c hR b0) k) (by simp only [List.length_nil];omega) b0.size;have b1:Below W.heap.size W W1:=b0.grown g1 b0.size (fun k e=>e1 k e);obtain ⟨v2,W2,r2,o2,g2,e2⟩:=g2v W1 W.heap.size v1 ([]++es.take k) o1 (sub 2 A c nx) (n-nx) (c-nx) (es.drop nx) (by rw [List.length_drop];omega) (fun e=>g9i hA e) (h1l (g7c hR b1) (by omega) nx) (by simp only [List.nil_append,List.length_take];omega) b1.size
 have b2:Below W.heap.size W W2:=b1.grown g2 b1.size (fun k e=>e2 k e);rw [List.nil_append] at o2;obtain ⟨A2,c2,rfl,p1,p2,p3,p4⟩:=Page.h2e o2;exact ⟨v1,W1,A2,c2,W2,r1,r2,p1,p3,p4,p2,b1,b2⟩
theorem map_set {w W:World} {lo mb:Nat} {es l:Ents} {A:Option Addr} {c:Nat} (h:g7s w lo mb es) (b:Below w.heap.size w W) (hR:PRow W A l) (hA:A=none->c=0) (hc:l.length<=c) (hx:∀ x,A=some x->w.heap.size<=x.block) :
 g7s (W.setCell ⟨mb,0,none⟩ (.slice A l.length c)) lo mb l/\Mod [mb] w (W.setCell ⟨mb,0,none⟩ (.slice A l.length c))/\W.cell? ⟨mb,0,none⟩≠none/\W.frozen? ⟨mb,0,none⟩=false:=by
 obtain ⟨h0,A0,c0,h1,-⟩:=h;have h2:=h1.below b h1.1;have hlt:=h1.1;refine ⟨⟨h0,A,c,at_set h2 0 _,fun hne=>?_,hA,hc,fun x e=>?_⟩,(Mod.of_below [mb] b).trans (g0z W mb 0 _),by rw [h2.2.2 0 _ rfl];simp,h2.2.1 0⟩
 ·obtain ⟨q,o,e,hq,hcl⟩:=hR hne;have:=hx _ e;have hb:q≠mb:=by simp only at this;omega
  exact ⟨q,o,e,by simpa using hq,fun j hj=>⟨by rw [World.cell?_setCell_other _ _ _ _ (by intro h;injection h with h _ _;exact hb h.symm)];exact (hcl j hj).1,by rw [World.cell?_setCell_other _ _ _ _ (by intro h;injection h with h _ _;exact hb h.symm)];exact (hcl j hj).2⟩⟩
 ·have:=hx x e;omega
theorem k3l {es:Ents} {key:Disk.Bs} (h:g2j (keysOf es) key=false):cutP es key=es:=by
 unfold cutP g1d;rw [if_neg (by rw [h];decide),List.take_append_drop]
theorem j6h {w:World} {lo mb:Nat} {es:Ents} (h:g7s w lo mb es) (key:Disk.Bs) (hl:es.length<=100000) :
 Calls Tryz.prog 56 #[ptr mb,strV key] w (fun e w'=>e=.returned (.bool (g2j (keysOf es) key))/\g7s w' lo mb (cutP es key)/\Mod [mb] w w'):=by
 obtain ⟨has,hhas⟩:∃ b,g2j (keysOf es) key=b:=⟨_,rfl⟩;obtain ⟨pos,hpos⟩:∃ p,g0s (keysOf es) key=p:=⟨_,rfl⟩;obtain ⟨n,hn⟩:∃ n,es.length=n:=⟨_,rfl⟩;have H:=hid h;obtain ⟨-,A,c,h1,h2,h3,h4,-⟩:=h;rw [hn] at h1 h4 hl;have cA:=k1l w mb A n c es key hn (by omega) h1 h2 pos hpos has hhas;have HA:=hid h3;have HR:=hid h2;have HC:=hid h4;have HB:=hid h1;have HN:=hid hn;have HPN:=hid (show pos<=n from by rw [<- hpos,<- hn];exact j3r)
 have HH:=hid hhas;have HP:=hid hpos;rw [hhas];obtain ⟨kv,hkv⟩:∃ kv,strV key=kv:=⟨_,rfl⟩;rw [hkv] at cA ⊢;clear h1 h2 h3 h4 hn hpos hhas hkv;go_enter Tryz.func56,Tryz.ntmps56
 go_wp2_with fail
 refine cA.mono ?_;rintro e w1 ⟨rfl,b1⟩;have B1:=hid b1;clear b1 cA;rcases has with _ | _
 ·have e1:=hid (k3l HH.out);go_wp2_with fail
  go_ret
  rw [e1.out];exact ⟨rfl,H.out.below B1.out,Mod.of_below _ B1.out⟩
 obtain ⟨nx,hnx⟩:∃ nx,pos+1=nx:=⟨_,rfl⟩;have HX:=hid (show nx<=n from by
  obtain ⟨g1,-⟩:=(g5a _ _).1 HH.out;rw [g4t,HP.out,HN.out] at g1;omega)
 have ECUT:=hid (show es.take pos++es.drop nx=cutP es key from by
  unfold cutP g1d;rw [if_pos HH.out,HP.out,hnx])
 have hw:IntKind.i64.wrap ((pos:Int)+1)=(nx:Int):=by rw [IntWalk.i64_in _ (by have:=HX.out;omega)];omega
 have hc1:w1.cell? ⟨mb,0,none⟩=some (.slice A n c):=(B1.out.cell (p:=⟨mb,0,none⟩) HB.out.1).trans (HB.out.2.2 0 _ rfl);have s1:=fun W=>g5u A n c pos (by have:=HPN.out;have:=HC.out;omega) W
 have s2:=fun W=>g8y A n c nx HX.out W
 have H1:=H.out.below B1.out;have bd:Below w1.heap.size w1 w1.drew:=(Below.refl _ _).drew;obtain ⟨v1,W1,A2,c2,W2,r1,r2,p1,p2,p3,p4,q1,q2⟩:=k9k w1.drew HN.out hl HA.out HC.out ((HR.out.below B1.out).below bd) HPN.out HX.out;rw [ECUT.out] at r2 p1 p3;obtain ⟨m1,m2,m3,m4⟩:=map_set H1 (bd.trans q2) p1 p2 p3 p4;have R1:=hid r1;have R2:=hid r2;have FIN:=hid (And.intro m1 ((Mod.of_below [mb] B1.out).trans m2))
 have K1:=hid (show W1.cell? ⟨mb,0,none⟩=some (.slice A n c) from ((bd.trans q1).cell (p:=⟨mb,0,none⟩) (by have:=HB.out.1;have:=B1.out.size;simp only;omega)).trans hc1);have K2:W2.cell? ⟨mb,0,none⟩=some (.slice A n c):=((bd.trans q2).cell (p:=⟨mb,0,none⟩) (by have:=HB.out.1;have:=B1.out.size;simp only;omega)).trans hc1;have K0:(w1.drew.alloc (.cells #[] 49)).cell? ⟨mb,0,none⟩=some (.slice A n c):=((Pool.g0a w1.drew _).cell (p:=⟨mb,0,none⟩) (by have:=HB.out.1;have:=B1.out.size;show mb<w1.heap.size;omega)).trans hc1
 obtain ⟨m,hm⟩:∃ m,(cutP es key).length=m:=⟨_,rfl⟩;rw [hm] at R2 FIN;clear r1 r2 p1 p2 p3 p4 q1 q2 bd H1 m1 m2 m3 hm hnx;go_wp2_with fail
 refine g2b (S:=fun w'=>w'.cell? ⟨mb,0,none⟩=some (.slice A n c)) 19 (by kernel_rfl) rfl rfl rfl rfl (by kernel_rfl) (by kernel_rfl) ?_;intro w3 hw3;subst hw3;have hSR:(fun w':World=>w'.cell? ⟨mb,0,none⟩=some (.slice A n c)) w1.drew:=hc1;simp only [List.set_cons_zero,List.set_cons_succ];refine Gen.tk 0 hSR ?_;simp only [Act.put];refine Gen.tk 2 hSR ?_;simp only [Act.put];refine Gen.tk 3 hSR ?_
 simp only [Act.put];refine Gen.tk 4 hSR ?_;simp only [Act.put];refine Gen.tk 5 hSR ?_;simp only [Act.put];refine Gen.tk 6 hSR ?_;simp only [Act.put];refine Gen.tk 7 hSR ?_;simp only [Act.put];refine Gen.tk 9 hSR ?_;simp only [Act.put];refine Gen.tk 10 hSR ?_;simp only [Act.put];refine Gen.tk 11 hSR ?_;simp only [Act.put];refine Gen.tk 12 hSR ?_;simp only [Act.put];refine Gen.tk 13 hSR ?_;simp only [Act.put]
 refine Gen.tk 14 hSR ?_;simp only [Act.put];refine Gen.tk 15 hSR ?_;simp only [Act.put];refine wpAnyH_ready (rs:=[1]) (by kernel_rfl) (by simp) (AllReadyH.cons rfl (fun K hK=>?_) AllReadyH.nil);go_simp
 refine hK.out _ _ K0 (fun hSR=>?_);clear hK K;refine wpAnyH_ready (rs:=[8]) (by kernel_rfl) (by simp) (AllReadyH.cons rfl (fun K hK=>?_) AllReadyH.nil);refine g0i (by rfl) (.tmp 15) (.tmp 21) _ _ (by rfl) (by rfl) (by rfl) R1.out ?_;refine hK _ _ K1.out (fun hSR=>?_);clear hK K;refine wpAnyH_ready (rs:=[16]) (by kernel_rfl) (by simp) (AllReadyH.cons rfl (fun K hK=>?_) AllReadyH.nil);refine g0i (by rfl) (.tmp 22) (.tmp 29) _ _ (by rfl) (by rfl) (by rfl) R2.out ?_
 refine hK _ _ K2 (fun hSR=>?_);clear hK K;refine Gen.tk 17 hSR ?_;simp only [Act.put];refine Gen.tk 18 hSR ?_;simp only [Act.put];refine Gen.tk 19 hSR ?_;simp only [Act.put];refine wpAnyH_done (by kernel_rfl) ?_ _;show Oper.wp _ _ _ _ _ _;unfold Oper.wp;go_simp
 clear hSR;go_wp2_with fail
 go_ret
 exact ⟨rfl,FIN.out.1,FIN.out.2⟩
theorem k9b {w:World} {lo mb:Nat} {es:Ents} (h:g7s w lo mb es) (key:Disk.Bs) (hl:es.length<=100000) :
 Calls Tryz.prog 57 #[ptr mb,strV key] w (fun e w'=>e=.returned (.tuple #[strV (valOf es key),.bool (g2j (keysOf es) key)])/\Below w.heap.size w w'):=by
 obtain ⟨has,hhas⟩:∃ b,g2j (keysOf es) key=b:=⟨_,rfl⟩;obtain ⟨pos,hpos⟩:∃ p,g0s (keysOf es) key=p:=⟨_,rfl⟩;obtain ⟨n,hn⟩:∃ n,es.length=n:=⟨_,rfl⟩;obtain ⟨-,A,c,h1,h2,-⟩:=h;rw [hn] at h1 hl;have cA:=k1l w mb A n c es key hn (by omega) h1 h2 pos hpos has hhas;have HR:=hid h2;have HB:=hid h1;have HN:=hid hn;have HH:=hid hhas;have HP:=hid hpos;rw [hhas];have HV:=hid (show valOf es key=if has=true then (es[pos]?.map (·.2)).getD [] else [] from by unfold valOf;rw [hhas,hpos])
 obtain ⟨V,hV⟩:∃ V,valOf es key=V:=⟨_,rfl⟩;rw [hV] at HV ⊢;obtain ⟨kv,hkv⟩:∃ kv,strV key=kv:=⟨_,rfl⟩;rw [hkv] at cA ⊢;clear h1 h2 hn hpos hhas hkv hV;go_enter Tryz.func57,Tryz.ntmps57
 go_wp2_with fail
 refine cA.mono ?_;rintro e w1 ⟨rfl,b1⟩;have B1:=hid b1;clear b1 cA;rcases has with _ | _
 ·have hv:=HV.out;rw [if_neg (by decide)] at hv;subst hv;clear HV;go_wp2_with fail
  go_ret2
  exact ⟨rfl,B1.out⟩
 ·have hlt:pos<n:=by
   obtain ⟨g1,-⟩:=(g5a _ _).1 HH.out;rw [g4t,HP.out,HN.out] at g1;exact g1
  have hpl:pos<es.length:=by rw [HN.out];exact hlt
  have hv:=HV.out;rw [if_pos rfl,List.getElem?_eq_getElem hpl] at hv;have hv:V=es[pos].2:=hv;obtain ⟨b,off,rfl,hbl,hcl⟩:=HR.out (by intro e;rw [e] at hpl;simp at hpl);obtain ⟨-,g2⟩:=hcl pos hpl;rw [<- hv] at g2;have c0:w1.cell? ⟨mb,0,none⟩=some (.slice (some ⟨b,off,none⟩) n c):=(B1.out.cell (p:=⟨mb,0,none⟩) HB.out.1).trans (HB.out.2.2 0 _ rfl);have q2:w1.cell? ⟨b,off+pos*2+1,none⟩=some (strV V):=(B1.out.cell (p:=⟨b,off+pos*2+1,none⟩) hbl).trans g2
  have t1:(pos:Int)<(n:Int):=by omega
  have t2:(0:Int)<=(pos:Int):=by omega
  obtain ⟨Z,hZ⟩:∃ Z,strV V=Z:=⟨_,rfl⟩;have HZ:=hid hZ;rw [hZ] at q2;clear HV HR HH HP hv g2 hcl hZ;go_wp2_with fail
  go_ret2
  exact ⟨by rw [HZ.out];rfl,B1.out⟩
theorem h8a {w w':World} {B:Nat} {v:Value} {l:List (Disk.Bs×Disk.Bs)} (h:OwnP w B v l) (b:Below w.heap.size w w'):OwnP w' B v l:=by
 obtain ⟨hl,h | ⟨g,cap,cur,e,hg,hh,r⟩⟩:=h
 ·exact ⟨hl,.inl h⟩
 ·exact ⟨hl,.inr ⟨g,cap,cur,e,hg,(b.block g (Array.getElem?_eq_some_iff.1 hh).1).trans hh,r⟩⟩
theorem j9t {w w':World} {A:Option Addr} {l:List (Disk.Bs×Disk.Bs)} {o:Option Nat} (h:PRow w A l) (g:w.grownBy w' o) (hA:∀ a,A=some a->∀ x,o=some x->a.block≠x):PRow w' A l:=fun hne=>by
 obtain ⟨b,off,e,hlt,hc⟩:=h hne;rcases o with _ | x
 ·have m:Mod [] w w':=(Mod.refl [] w).grown g (fun k e=>by cases e);exact ⟨b,off,e,Nat.lt_of_lt_of_le hlt m.size,fun j hj=>⟨(m.cell (p:=⟨b,off+j*2,none⟩) hlt (by simp)).trans (hc j hj).1,(m.cell (p:=⟨b,off+j*2+1,none⟩) hlt (by simp)).trans (hc j hj).2⟩⟩
 ·have m:Mod [x] w w':=(Mod.refl [x] w).grown g (fun k e=>.inl (by cases e;simp));have hb:b∉[x]:=by
   rw [List.mem_singleton];exact hA _ e x rfl
  exact ⟨b,off,e,Nat.lt_of_lt_of_le hlt m.size,fun j hj=>⟨(m.cell (p:=⟨b,off+j*2,none⟩) hlt hb).trans (hc j hj).1,(m.cell (p:=⟨b,off+j*2+1,none⟩) hlt hb).trans (hc j hj).2⟩⟩
theorem j0d (W:World) (key val:Disk.Bs):PRow (W.alloc (.cells #[strV key,strV val] 49)) (some ⟨W.heap.size,0,none⟩) [(key,val)]:=fun _=>by
 have a:=at_new W #[strV key,strV val] 49;refine ⟨_,0,rfl,a.1,fun j hj=>?_⟩;have:j=0:=by simpa using hj
 subst this;exact ⟨a.2.2 0 _ rfl,a.2.2 1 _ rfl⟩
theorem p2n {w W:World} {A:Option Addr} {n c:Nat} {es l:Ents} (b:Below w.heap.size w W) (hl:es.length=n) (hn:n<=100000) (hA:A=none->c=0) (hc:n<=c) (hR:PRow W A es) {k:Nat} (hk:k<=n) {v:Value} (ho:OwnP W w.heap.size v l) (hll:l.length<=200000) :
 ∃ A2 c2 W2,(Builtin.append_ #[27,27] 27 #[v,.slice (sub 2 A c k) (n-k) (c-k)]).run Tryz.prog W=.ok (.slice A2 (l++es.drop k).length c2) W2 /\
  PRow W2 A2 (l++es.drop k)/\(A2=none->c2=0)/\(l++es.drop k).length<=c2/\(∀ x,A2=some x->w.heap.size<=x.block)/\Below w.heap.size w W2:=by
 obtain ⟨v2,W2,r2,o2,g2,e2⟩:=g2v W w.heap.size v l ho (sub 2 A c k) (n-k) (c-k) (es.drop k) (by rw [List.length_drop];omega) (fun e=>g9i hA e) (h1l hR (by omega) k) (by omega) b.size;have b2:Below w.heap.size w W2:=b.grown g2 b.size (fun k e=>e2 k e);obtain ⟨A2,c2,rfl,p1,p2,p3,p4⟩:=Page.h2e o2;exact ⟨A2,c2,W2,r2,p1,p3,p4,p2,b2⟩
theorem p0b {w V:World} {A:Option Addr} {n c:Nat} {es:Ents} (bV:Below w.heap.size w V) (hl:es.length=n) (hn:n<=100000) (hA:A=none->c=0) (hR:PRow V A es) {k:Nat} (hk:k<=n) {x y:Nat} {key val:Disk.Bs} (hxy:y≠x)
 (ho:OwnP V w.heap.size (.slice (some ⟨x,0,none⟩) 0 0) []) (hp:PRow V (some ⟨y,0,none⟩) [(key,val)]) :
 ∃ v1 W1 v2 W2,(Builtin.append_ #[27,27] 27 #[.slice (some ⟨x,0,none⟩) 0 0,.slice A k c]).run Tryz.prog V=.ok v1 W1/\(Builtin.append_ #[27,27] 27 #[v1,.slice (some ⟨y,0,none⟩) 1 1]).run Tryz.prog W1=.ok v2 W2 /\
  OwnP W2 w.heap.size v2 (es.take k++[(key,val)])/\Below w.heap.size w W1/\Below w.heap.size w W2:=by
 obtain ⟨v1,W1,r1,o1,g1,e1⟩:=g2v V w.heap.size _ [] ho A k c (es.take k) (by rw [List.length_take];omega) hA (g8j hR k) (by simp only [List.length_nil];omega) bV.size;have b1:Below w.heap.size w W1:=bV.grown g1 bV.size (fun k e=>e1 k e);have hp1:=j9t hp g1 (fun a e z ez=>by cases e;cases ez;exact hxy);obtain ⟨v2,W2,r2,o2,g2,e2⟩:=g2v W1 w.heap.size v1 ([]++es.take k) o1 (some ⟨y,0,none⟩) 1 1 [(key,val)] rfl (fun e=>by cases e) hp1 (by simp only [List.nil_append,List.length_take];omega) b1.size
 exact ⟨v1,W1,v2,W2,r1,r2,by simpa using o2,b1,b1.grown g2 b1.size (fun k e=>e2 k e)⟩
theorem p3p {w V:World} {A:Option Addr} {n c:Nat} {es:Ents} (bV:Below w.heap.size w V) (hl:es.length=n) (hn:n<=100000) (hA:A=none->c=0) (hR:PRow V A es) {k:Nat} (hk:k<=n) {x:Nat} (key val:Disk.Bs)
 (ho:OwnP V w.heap.size (.slice (some ⟨x,0,none⟩) 0 0) []) :
 ∃ v1 W1 v2 W2,(Builtin.append_ #[27,27] 27 #[.slice (some ⟨x,0,none⟩) 0 0,.slice A k c]).run Tryz.prog V=.ok v1 W1/\(Builtin.append_ #[27,27] 27 #[v1,.slice (some ⟨W1.heap.size,0,none⟩) 1 1]).run Tryz.prog (W1.alloc (.cells #[strV key,strV val] 49))=.ok v2 W2 /\
  OwnP W2 w.heap.size v2 (es.take k++[(key,val)])/\Below w.heap.size w W1/\Below w.heap.size w (W1.alloc (.cells #[strV key,strV val] 49))/\Below w.heap.size w W2:=by
 obtain ⟨v1,W1,r1,o1,g1,e1⟩:=g2v V w.heap.size _ [] ho A k c (es.take k) (by rw [List.length_take];omega) hA (g8j hR k) (by simp only [List.length_nil];omega) bV.size;have b1:Below w.heap.size w W1:=bV.grown g1 bV.size (fun k e=>e1 k e);have bb:=Pool.g0a W1 (.cells #[strV key,strV val] 49);have b1':Below w.heap.size w (W1.alloc (.cells #[strV key,strV val] 49)):=b1.trans (bb.mono b1.size)
 obtain ⟨v2,W2,r2,o2,g2,e2⟩:=g2v (W1.alloc (.cells #[strV key,strV val] 49)) w.heap.size v1 ([]++es.take k) (h8a o1 bb) (some ⟨W1.heap.size,0,none⟩) 1 1 [(key,val)] rfl (fun e=>by cases e) (j0d W1 key val) (by simp only [List.nil_append,List.length_take];omega) b1'.size;exact ⟨v1,W1,v2,W2,r1,r2,by simpa using o2,b1,b1',b1'.grown g2 b1'.size (fun k e=>e2 k e)⟩
theorem j7w {es:Ents} (h:g1u es) (key val:Disk.Bs):(cutP es key).take (g0s (keysOf (cutP es key)) key)++[(key,val)]++(cutP es key).drop (g0s (keysOf (cutP es key)) key)=setP es key val:=by
 have ar:=g8k h key;obtain ⟨P,hP⟩:∃ P,es.take (g0s (keysOf es) key)=P:=⟨_,rfl⟩;obtain ⟨R,hR⟩:∃ R,es.drop (g1d es key)=R:=⟨_,rfl⟩;rw [hP,hR] at ar;have e1:cutP es key=P++[]++R:=by unfold cutP;rw [hP,hR,List.append_nil]
 have e2:setP es key val=P++(key,val) :: R:=by unfold setP;rw [hP,hR]
 have e3:g0s (keysOf (P++[]++R)) key=P.length:=by
  rw [h0v ar]
  rfl
 rw [e1,e3,e2,List.append_nil,List.take_left,List.drop_left];simp
theorem k6r (mb:Nat) (key val:Disk.Bs) (hb:key.length<1\/48<key.length\/100<val.length) (w:World) :
 Calls Tryz.prog 55 #[ptr mb,strV key,strV val] w (fun e w'=>e=.returned (.int .i64 80)/\w'=w):=by
 obtain ⟨ks,hks⟩:∃ ks,strB key=ks:=⟨_,rfl⟩;obtain ⟨vs,hvs⟩:∃ vs,strB val=vs:=⟨_,rfl⟩;have k1:ks.size=key.length:=by rw [<- hks];exact Page.g3b key
 have v1:vs.size=val.length:=by rw [<- hvs];exact Page.g3b val
 rw [show strV key=.string ks by rw [<- hks],show strV val=.string vs by rw [<- hvs]];rw [<- k1,<- v1] at hb;clear hks hvs k1 v1
 by_cases h1:(ks.size:Int)<1
 ·go_enter Tryz.func55,Tryz.ntmps55
  go_wp2_with fail
  go_ret
  exact ⟨rfl,rfl⟩
 ·by_cases h2:(48:Int)<(ks.size:Int)
  ·go_enter Tryz.func55,Tryz.ntmps55
   go_wp2_with fail
   go_ret
   exact ⟨rfl,rfl⟩
  ·have h3:(100:Int)<(vs.size:Int):=by omega
   clear hb;go_enter Tryz.func55,Tryz.ntmps55
   go_wp2_with fail
   go_ret
   exact ⟨rfl,rfl⟩
theorem k8i {w:World} {lo mb:Nat} {es:Ents} (h:g7s w lo mb es) (hs:g1u es) (key val:Disk.Bs) (hk1:1<=key.length) (hk2:key.length<=48) (hv:val.length<=100) (hl:es.length<=90000) :
 Calls Tryz.prog 55 #[ptr mb,strV key,strV val] w (fun e w'=>e=.returned (.int .i64 0)/\g7s w' lo mb (setP es key val)/\Mod [mb] w w'):=by
 have cC:=j6h h key (by omega);have EQ:=hid (j7w hs key val);have HLEN:=hid (Nat.le_trans (g9x es key) hl);obtain ⟨l,hcl⟩:∃ l,cutP es key=l:=⟨_,rfl⟩;rw [hcl] at cC EQ HLEN;obtain ⟨r,hr⟩:∃ r,setP es key val=r:=⟨_,rfl⟩;rw [hr] at EQ ⊢;obtain ⟨ks,hks⟩:∃ ks,strB key=ks:=⟨_,rfl⟩;obtain ⟨vs,hvs⟩:∃ vs,strB val=vs:=⟨_,rfl⟩;have k1:¬ (ks.size:Int)<1:=by rw [<- hks,Page.g3b];omega
 have k2:¬ (48:Int)<(ks.size:Int):=by rw [<- hks,Page.g3b];omega
 have k3:¬ (100:Int)<(vs.size:Int):=by rw [<- hvs,Page.g3b];omega
 have EK:=hid (show strV key=.string ks by rw [<- hks]);have EV:=hid (show strV val=.string vs by rw [<- hvs]);rw [EK.out] at cC ⊢;rw [EV.out];obtain ⟨hb,hhb⟩:∃ b,g2j (keysOf es) key=b:=⟨_,rfl⟩;rw [hhb] at cC;clear h hs hk1 hk2 hv hl hcl hr hks hvs hhb;go_enter Tryz.func55,Tryz.ntmps55
 go_wp2_with fail
 refine cC.mono ?_;rintro e w1 ⟨rfl,H1,m1⟩;have HM1:=hid m1;have H:=hid H1;obtain ⟨n,hn⟩:∃ n,l.length=n:=⟨_,rfl⟩;obtain ⟨pos,hpos⟩:∃ p,g0s (keysOf l) key=p:=⟨_,rfl⟩;obtain ⟨hb2,hhb2⟩:∃ b,g2j (keysOf l) key=b:=⟨_,rfl⟩;obtain ⟨-,A,c,h1,h2,h3,h4,-⟩:=H1;rw [hn] at h1 h4;have cA:=k1l w1 mb A n c l key hn (by have:=HLEN.out;omega) h1 h2 pos hpos hb2 hhb2;rw [EK.out] at cA;have HA:=hid h3;have HR:=hid h2
 have HC:=hid h4;have HB:=hid h1;have HN:=hid hn;have HPN:=hid (show pos<=n from by rw [<- hpos,<- hn];exact j3r);have HN9:=hid (show n<=100000 from by have:=HLEN.out;omega);rw [hpos] at EQ;clear h1 h2 h3 h4 hn hpos hhb2 m1 cC HLEN;go_wp2_with fail
 refine cA.mono ?_;rintro e w2 ⟨rfl,b2⟩;have B2:=hid b2;clear b2 cA;have hc1:w2.cell? ⟨mb,0,none⟩=some (.slice A n c):=(B2.out.cell (p:=⟨mb,0,none⟩) HB.out.1).trans (HB.out.2.2 0 _ rfl);have s1:=fun W=>g5u A n c pos (by have:=HPN.out;have:=HC.out;omega) W
 have s2:=fun W=>g8y A n c pos HPN.out W
 have KS:=hid (show ∀ V,Below w2.heap.size w2 V->V.cell? ⟨mb,0,none⟩=some (.slice A n c) from fun V b=>(b.cell (p:=⟨mb,0,none⟩) (by have:=HB.out.1;have:=B2.out.size;simp only;omega)).trans hc1);have KF:=hid (show ∀ V,Below w2.heap.size w2 V->V.frozen? ⟨mb,0,none⟩=false from fun V b=>((HB.out.below B2.out HB.out.1).below b (HB.out.below B2.out HB.out.1).1).2.1 0);have PR:=hid (show ∀ V,Below w2.heap.size w2 V->PRow V A l from fun V b=>g7c (g7c HR.out B2.out) b)
 have H2:=H.out.below B2.out;have ENDS:=hid (show ∀ W v,Below w2.heap.size w2 W->OwnP W w2.heap.size v (l.take pos++[(key,val)])->∃ A2 c2 W2 q,(Builtin.append_ #[27,27] 27 #[v,.slice (sub 2 A c pos) (n-pos) (c-pos)]).run Tryz.prog W=.ok (.slice A2 q c2) W2/\Below w2.heap.size w2 W2/\Hid (g7s (W2.setCell ⟨mb,0,none⟩ (.slice A2 q c2)) lo mb r/\Mod [mb] w (W2.setCell ⟨mb,0,none⟩ (.slice A2 q c2))) from fun W v bW o=>by
  obtain ⟨A2,c2,W2,r2,p1,p2,p3,p4,p5⟩:=p2n bW HN.out HN9.out HA.out HC.out (PR.out _ bW) HPN.out o (by have:=HN.out;have:=HN9.out;rw [List.length_append,List.length_take,List.length_singleton];omega);rw [EQ.out] at r2 p1 p3;obtain ⟨q1,q2,-⟩:=map_set H2 p5 p1 p2 p3 p4;exact ⟨A2,c2,W2,_,r2,p5,hid ⟨q1,(HM1.out.trans (Mod.of_below [mb] B2.out)).trans q2⟩⟩)
 have bd:Below w2.heap.size w2 w2.drew:=(Below.refl _ _).drew;obtain ⟨wd,hwd⟩:∃ wd,w2.drew=wd:=⟨_,rfl⟩;have SZ:=hid (show w2.heap.size=wd.heap.size from by rw [<- hwd];rfl);rw [hwd] at bd;have bV1:=bd.trans ((Pool.g0a wd (.cells #[] 49)).mono bd.size);have oV1:=h1p (h4k wd) bd.size;have bV2:=bV1.trans ((Pool.g0a (wd.alloc (.cells #[] 49)) (.cells #[.string ks,.string vs] 49)).mono bV1.size)
 have oV2:=h8a oV1 (Pool.g0a (wd.alloc (.cells #[] 49)) (.cells #[.string ks,.string vs] 49));have pV2:=j0d (wd.alloc (.cells #[] 49)) key val;have bV3:=bd.trans ((Pool.g0a wd (.cells #[.string ks,.string vs] 49)).mono bd.size);have bV4:=bV3.trans ((Pool.g0a (wd.alloc (.cells #[.string ks,.string vs] 49)) (.cells #[] 49)).mono bV3.size);have oV4:=h1p (h4k (wd.alloc (.cells #[.string ks,.string vs] 49))) bV3.size
 have pV4:=g7c (j0d wd key val) (Pool.g0a (wd.alloc (.cells #[strV key,strV val] 49)) (.cells #[] 49));rw [EK.out,EV.out] at pV2 pV4;obtain ⟨x1,X1,x2,X2,q1,q2,q3,q4,q5,q6⟩:=p3p bV1 HN.out HN9.out HA.out (PR.out _ bV1) HPN.out key val oV1;obtain ⟨y1,Y1,y2,Y2,r1,r2,r3,r4,r5⟩:=p0b bV2 HN.out HN9.out HA.out (PR.out _ bV2) HPN.out (by rw [World.size_alloc];omega) oV2 pV2;obtain ⟨z1,Z1,z2,Z2,t1,t2,t3,t4,t5⟩:=p0b bV4 HN.out HN9.out HA.out (PR.out _ bV4) HPN.out (by rw [World.size_alloc];omega) oV4 pV4
 rw [EK.out,EV.out] at q2 q5;rw [World.size_alloc] at r2 t1;obtain ⟨a1,d1,X3,f1,q7,q8,FX⟩:=ENDS.out _ _ q6 q3;obtain ⟨a2,d2,Y3,f2,r7,r8,FY⟩:=ENDS.out _ _ r5 r3;obtain ⟨a3,d3,Z3,f3,t7,t8,FZ⟩:=ENDS.out _ _ t5 t3;have Q1:=hid q1;have Q2:=hid q2;have Q7:=hid q7;have R1:=hid r1;have R2:=hid r2;have R7:=hid r7;have T1:=hid t1;have T2:=hid t2;have T7:=hid t7;have S1:=hid (KS.out _ bV1);have S2:=hid (KS.out _ bV2)
 have S3:=hid (KS.out _ bV3);have S4:=hid (KS.out _ bV4);have SX1:=hid (KS.out _ q4);have SX1':=hid (KS.out _ q5);have SX2:=hid (KS.out _ q6);have SX3:=KS.out _ q8;have FX3:=KF.out _ q8;have SY1:=hid (KS.out _ r4);have SY2:=hid (KS.out _ r5);have SY3:=KS.out _ r8;have FY3:=KF.out _ r8;have SZ1:=hid (KS.out _ t4);have SZ2:=hid (KS.out _ t5);have SZ3:=KS.out _ t8;have FZ3:=KF.out _ t8;have S0:=hid (KS.out _ bd)
 clear q1 q2 q3 q4 q5 q6 q7 q8 r1 r2 r3 r4 r5 r7 r8 t1 t2 t3 t4 t5 t7 t8 bV1 oV1 bV2 oV2 pV2 bV3 bV4 oV4 pV4 bd H2;clear ENDS PR KS KF HM1 H HA HR HC HB HN HPN HN9 EQ B2 SZ;go_wp2_with fail
 refine g2b (S:=fun w'=>w'.cell? ⟨mb,0,none⟩=some (.slice A n c)) 23 (by kernel_rfl) rfl rfl rfl rfl (by kernel_rfl) (by kernel_rfl) ?_;intro w3 hw3;rw [hwd] at hw3;subst hw3;have hSR:(fun w':World=>w'.cell? ⟨mb,0,none⟩=some (.slice A n c)) w3:=S0.out;simp only [List.set_cons_zero,List.set_cons_succ];refine Gen.tk 0 hSR ?_;simp only [Act.put];refine Gen.tk 2 hSR ?_;simp only [Act.put];refine Gen.tk 3 hSR ?_
 simp only [Act.put];refine Gen.tk 4 hSR ?_;simp only [Act.put];refine Gen.tk 5 hSR ?_;simp only [Act.put];refine Gen.tk 6 hSR ?_;simp only [Act.put];refine Gen.tk 7 hSR ?_;simp only [Act.put];refine Gen.tk 9 hSR ?_;simp only [Act.put];refine Gen.tk 10 hSR ?_;simp only [Act.put];refine Gen.tk 11 hSR ?_;simp only [Act.put];refine Gen.tk 14 hSR ?_;simp only [Act.put];refine Gen.tk 15 hSR ?_;simp only [Act.put]
 refine Gen.tk 16 hSR ?_;simp only [Act.put];refine Gen.tk 17 hSR ?_;simp only [Act.put];refine Gen.tk 18 hSR ?_;simp only [Act.put];refine Gen.tk 19 hSR ?_;simp only [Act.put];refine wpAnyH_ready (rs:=[1,12]) (by kernel_rfl) (by simp) (AllReadyH.cons rfl (fun K hK=>?_) (AllReadyH.cons rfl (fun K hK=>?_) AllReadyH.nil))
 ·go_simp
  refine hK.out _ _ S1.out (fun hSR=>?_);clear hK K
  (try simp only [List.getElem_toArray]);(try simp only [List.getElem_cons_succ]);(try simp only [List.getElem_cons_zero]);(try simp only [Act.put]);(try simp only [List.setIfInBounds_toArray]);(try simp only [List.set_cons_succ]);(try simp only [List.set_cons_zero])
  refine wpAnyH_ready (rs:=[8,12]) (by kernel_rfl) (by simp) (AllReadyH.cons rfl (fun K hK=>?_) (AllReadyH.cons rfl (fun K hK=>?_) AllReadyH.nil))
  ·refine g0i (by rfl) (.tmp 32) (.tmp 38) _ _ (by rfl) (by rfl) (by rfl) Q1.out ?_;refine hK _ _ SX1.out (fun hSR=>?_);clear hK K
   (try simp only [List.getElem_toArray]);(try simp only [List.getElem_cons_succ]);(try simp only [List.getElem_cons_zero]);(try simp only [Act.put]);(try simp only [List.setIfInBounds_toArray]);(try simp only [List.set_cons_succ]);(try simp only [List.set_cons_zero])
   refine wpAnyH_ready (rs:=[12]) (by kernel_rfl) (by simp) (AllReadyH.cons rfl (fun K hK=>?_) AllReadyH.nil);go_simp
   refine hK.out _ _ SX1'.out (fun hSR=>?_);clear hK K
   (try simp only [List.getElem_toArray]);(try simp only [List.getElem_cons_succ]);(try simp only [List.getElem_cons_zero]);(try simp only [Act.put]);(try simp only [List.setIfInBounds_toArray]);(try simp only [List.set_cons_succ]);(try simp only [List.set_cons_zero])
   refine wpAnyH_ready (rs:=[13]) (by kernel_rfl) (by simp) (AllReadyH.cons rfl (fun K hK=>?_) AllReadyH.nil);refine g0i (by rfl) (.tmp 39) (.tmp 43) _ _ (by rfl) (by rfl) (by rfl) Q2.out ?_;refine hK _ _ SX2.out (fun hSR=>?_);clear hK K
   (try simp only [List.getElem_toArray]);(try simp only [List.getElem_cons_succ]);(try simp only [List.getElem_cons_zero]);(try simp only [Act.put]);(try simp only [List.setIfInBounds_toArray]);(try simp only [List.set_cons_succ]);(try simp only [List.set_cons_zero])
   refine wpAnyH_ready (rs:=[20]) (by kernel_rfl) (by simp) (AllReadyH.cons rfl (fun K hK=>?_) AllReadyH.nil);refine g0i (by rfl) (.tmp 44) (.tmp 50) _ _ (by rfl) (by rfl) (by rfl) Q7.out ?_;refine hK _ _ SX3 (fun hSR=>?_);clear hK K
   (try simp only [List.getElem_toArray]);(try simp only [List.getElem_cons_succ]);(try simp only [List.getElem_cons_zero]);(try simp only [Act.put]);(try simp only [List.setIfInBounds_toArray]);(try simp only [List.set_cons_succ]);(try simp only [List.set_cons_zero])
   refine Gen.tk 21 hSR ?_;simp only [Act.put];refine Gen.tk 22 hSR ?_;simp only [Act.put];refine Gen.tk 23 hSR ?_;simp only [Act.put];refine wpAnyH_done (by kernel_rfl) ?_ _;show Oper.wp _ _ _ _ _ _;unfold Oper.wp;go_simp
   clear hSR;go_wp2_with fail
   go_ret
   exact ⟨rfl,FX.out.1,FX.out.2⟩
  ·go_simp
   refine hK.out _ _ S2.out (fun hSR=>?_);clear hK K
   (try simp only [List.getElem_toArray]);(try simp only [List.getElem_cons_succ]);(try simp only [List.getElem_cons_zero]);(try simp only [Act.put]);(try simp only [List.setIfInBounds_toArray]);(try simp only [List.set_cons_succ]);(try simp only [List.set_cons_zero])
   refine wpAnyH_ready (rs:=[8]) (by kernel_rfl) (by simp) (AllReadyH.cons rfl (fun K hK=>?_) AllReadyH.nil);refine g0i (by rfl) (.tmp 32) (.tmp 38) _ _ (by rfl) (by rfl) (by rfl) R1.out ?_;refine hK _ _ SY1.out (fun hSR=>?_);clear hK K
   (try simp only [List.getElem_toArray]);(try simp only [List.getElem_cons_succ]);(try simp only [List.getElem_cons_zero]);(try simp only [Act.put]);(try simp only [List.setIfInBounds_toArray]);(try simp only [List.set_cons_succ]);(try simp only [List.set_cons_zero])
   refine wpAnyH_ready (rs:=[13]) (by kernel_rfl) (by simp) (AllReadyH.cons rfl (fun K hK=>?_) AllReadyH.nil);refine g0i (by rfl) (.tmp 39) (.tmp 43) _ _ (by rfl) (by rfl) (by rfl) R2.out ?_;refine hK _ _ SY2.out (fun hSR=>?_);clear hK K
   (try simp only [List.getElem_toArray]);(try simp only [List.getElem_cons_succ]);(try simp only [List.getElem_cons_zero]);(try simp only [Act.put]);(try simp only [List.setIfInBounds_toArray]);(try simp only [List.set_cons_succ]);(try simp only [List.set_cons_zero])
   refine wpAnyH_ready (rs:=[20]) (by kernel_rfl) (by simp) (AllReadyH.cons rfl (fun K hK=>?_) AllReadyH.nil);refine g0i (by rfl) (.tmp 44) (.tmp 50) _ _ (by rfl) (by rfl) (by rfl) R7.out ?_;refine hK _ _ SY3 (fun hSR=>?_);clear hK K
   (try simp only [List.getElem_toArray]);(try simp only [List.getElem_cons_succ]);(try simp only [List.getElem_cons_zero]);(try simp only [Act.put]);(try simp only [List.setIfInBounds_toArray]);(try simp only [List.set_cons_succ]);(try simp only [List.set_cons_zero])
   refine Gen.tk 21 hSR ?_;simp only [Act.put];refine Gen.tk 22 hSR ?_;simp only [Act.put];refine Gen.tk 23 hSR ?_;simp only [Act.put];refine wpAnyH_done (by kernel_rfl) ?_ _;show Oper.wp _ _ _ _ _ _;unfold Oper.wp;go_simp
   clear hSR;go_wp2_with fail
   go_ret
   exact ⟨rfl,FY.out.1,FY.out.2⟩
 ·go_simp
  refine hK.out _ _ S3.out (fun hSR=>?_);clear hK K
  (try simp only [List.getElem_toArray]);(try simp only [List.getElem_cons_succ]);(try simp only [List.getElem_cons_zero]);(try simp only [Act.put]);(try simp only [List.setIfInBounds_toArray]);(try simp only [List.set_cons_succ]);(try simp only [List.set_cons_zero])
  refine wpAnyH_ready (rs:=[1]) (by kernel_rfl) (by simp) (AllReadyH.cons rfl (fun K hK=>?_) AllReadyH.nil);go_simp
  refine hK.out _ _ S4.out (fun hSR=>?_);clear hK K
  (try simp only [List.getElem_toArray]);(try simp only [List.getElem_cons_succ]);(try simp only [List.getElem_cons_zero]);(try simp only [Act.put]);(try simp only [List.setIfInBounds_toArray]);(try simp only [List.set_cons_succ]);(try simp only [List.set_cons_zero])
  refine wpAnyH_ready (rs:=[8]) (by kernel_rfl) (by simp) (AllReadyH.cons rfl (fun K hK=>?_) AllReadyH.nil);refine g0i (by rfl) (.tmp 32) (.tmp 38) _ _ (by rfl) (by rfl) (by rfl) T1.out ?_;refine hK _ _ SZ1.out (fun hSR=>?_);clear hK K
  (try simp only [List.getElem_toArray]);(try simp only [List.getElem_cons_succ]);(try simp only [List.getElem_cons_zero]);(try simp only [Act.put]);(try simp only [List.setIfInBounds_toArray]);(try simp only [List.set_cons_succ]);(try simp only [List.set_cons_zero])
  refine wpAnyH_ready (rs:=[13]) (by kernel_rfl) (by simp) (AllReadyH.cons rfl (fun K hK=>?_) AllReadyH.nil);refine g0i (by rfl) (.tmp 39) (.tmp 43) _ _ (by rfl) (by rfl) (by rfl) T2.out ?_;refine hK _ _ SZ2.out (fun hSR=>?_);clear hK K
  (try simp only [List.getElem_toArray]);(try simp only [List.getElem_cons_succ]);(try simp only [List.getElem_cons_zero]);(try simp only [Act.put]);(try simp only [List.setIfInBounds_toArray]);(try simp only [List.set_cons_succ]);(try simp only [List.set_cons_zero])
  refine wpAnyH_ready (rs:=[20]) (by kernel_rfl) (by simp) (AllReadyH.cons rfl (fun K hK=>?_) AllReadyH.nil);refine g0i (by rfl) (.tmp 44) (.tmp 50) _ _ (by rfl) (by rfl) (by rfl) T7.out ?_;refine hK _ _ SZ3 (fun hSR=>?_);clear hK K
  (try simp only [List.getElem_toArray]);(try simp only [List.getElem_cons_succ]);(try simp only [List.getElem_cons_zero]);(try simp only [Act.put]);(try simp only [List.setIfInBounds_toArray]);(try simp only [List.set_cons_succ]);(try simp only [List.set_cons_zero])
  refine Gen.tk 21 hSR ?_;simp only [Act.put];refine Gen.tk 22 hSR ?_;simp only [Act.put];refine Gen.tk 23 hSR ?_;simp only [Act.put];refine wpAnyH_done (by kernel_rfl) ?_ _;show Oper.wp _ _ _ _ _ _;unfold Oper.wp;go_simp
  clear hSR;go_wp2_with fail
  go_ret
  exact ⟨rfl,FZ.out.1,FZ.out.2⟩
end Go.Proofs.YtglejnkoojpelaaGreat.Tree

import Derived.Test.YtglejnkoojpelaaGreatMT10
import Derived.Test.YtglejnkoojpelaaGreatMT6
import Derived.Test.YtglejnkoojpelaaGreatMT9
import Derived.Test.YtglejnkoojpelaaGreatMS4
set_option maxRecDepth 100000
set_option maxHeartbeats 32000000
namespace Go.Proofs.YtglejnkoojpelaaGreat.Tree
open Go.RowKit Gen
open Disk (St Dev Mod ptr)
open Page (Pg Lay less Enc g0v Lt g1l g3h Fine)
open Store
open Lib (hid)
def j0y (d:St) (t:T) (r dp:Int) (es:Ents) (K:Nat):Prop :=
 (dp=0/\r=0/\es=[]/\Book t [] K)\/∃ (m:Nat) (ps:List Int),dp=((m+1:Nat):Int)/\IsT d (m+1) r (es,ps)/\Book t ps K
theorem j5t {α:Type} {l:List α} (h:l.length=1):∃ a,l=[a]:=by
 match l,h with
 | [a],_=>exact ⟨a,rfl⟩
theorem j9z {d d':St} {t t':T} {M K:Nat} {p:Pg} {y:Held} {r r' dp' x:Int} (hp:Pre d t) (hc:Store.Calm d) (hv:VT d (M+1) p y) (hr:Ripe p) (hs:g1u y.1) (hb:Book t (r :: y.2) K)
 (h:CRel r ((M+1:Nat):Int) r ((M+1:Nat):Int) p d t d' t' r' dp' x):(x=60/\g1b t d.n<=2)\/(x=0/\j0y d' t' r' dp' y.1 K/\Went d t d' t' []):=by
 rcases h with ⟨h0,rfl,rfl,rfl,hx⟩ | ⟨h0,d1,t1,ks,ns,x1,hS,hx⟩
 ·obtain ⟨b1,b2,-⟩:=hb.drop (N:=d'.n);have st:=(Pre.refl hp).drop r;have W:Went d' t d' (g1n t r).1 []:=⟨st.pre hp,hc,rfl,st.part,fun _ _=>rfl⟩;rcases hx with ⟨-,rfl,rfl⟩ | ⟨hx,-⟩
  ·refine .inr ⟨b1,?_,W⟩;rcases hr.kind with hk | hk
   ·obtain ⟨e,ey⟩:=k2x hv hk;have:M=0:=by omega
    subst this;refine .inl ⟨rfl,if_neg (by omega),?_,by rw [ey] at b2;exact b2⟩;rw [ey];have f:g0o p=p.pairs.length:=if_pos hk;exact List.length_eq_zero_iff.1 (show p.pairs.length=0 by omega)
   ·obtain ⟨q,e⟩:=j0v hv hk;have:M=q+1:=by omega
    subst this;obtain ⟨-,g1,L,g2,g3,g4,g5⟩:=hv;have f:g0o p=p.keys.length:=if_neg (by omega);obtain ⟨k,ek⟩:=j5t (l:=p.kids) (by omega);obtain ⟨z,ez⟩:=j5t (l:=L) (by omega);have e1:g6a p=k:=by unfold g6a;rw [if_pos hk,ek];rfl
    have e2:y=z:=by rw [g5,ez];simp
    refine .inr ⟨q,y.2,?_,?_,b2⟩
    ·show ((q+1+1:Nat):Int)-1=((q+1:Nat):Int);omega
    ·rw [e1,e2];exact (g3 0 k z (by rw [ek];rfl) (by rw [ez];rfl)).1
  ·exact absurd b1 hx
 ·rcases h5e (os:=[r]) (rest:=[]) hp hc hv hr hs h0 (.inl rfl) (by simpa using hb) hS with ⟨h1,h2⟩ | ⟨rfl,L,e1,e2,e3,hT,hbt,hen,hkk,hsp,bk,av,wt⟩
  ·rcases hx with ⟨-,rfl,-⟩ | ⟨hx,-⟩ | ⟨hx,-⟩
   ·exact .inl ⟨h1,by omega⟩
   ·rw [h1] at hx;exact absurd hx (by decide)
   ·rw [h1] at hx;exact absurd hx (by decide)
  rcases hx with ⟨hx,-⟩ | ⟨-,rfl,rfl,rfl,rfl,rfl,rfl⟩ | ⟨-,hne,n,x2,hl,hx⟩
  ·exact absurd rfl hx
  ·obtain ⟨n,en⟩:=j5t (l:=ns) (by simpa using e2);obtain ⟨z,ez⟩:=j5t (l:=L) (by rw [e1,en];rfl);refine .inr ⟨rfl,.inr ⟨M,z.2,rfl,?_,?_⟩,wt⟩
   ·have g:=(hT 0 n z (by rw [en];rfl) (by rw [ez];rfl)).1;have:y.1=z.1:=by rw [<- hen,ez];simp
    rw [en,this];exact g
   ·rw [ez] at bk
    simpa using bk
  ·have hfull:=hsp hne;have hle:g0p p<=g0o p:=by
    have:g0p p<=g1j p:=by unfold g0p g1j;split <;> omega
    omega
   have l1:ks.length=1:=by
    have:=List.length_pos_iff.2 hne;omega
   have n1:¬ (2:Int)=1:=by decide
   have hv1:VT d1 (M+2) (g0f ks ns) (L.flatMap (·.1),L.flatMap (·.2)):=⟨rfl,e2,L,e1,fun i n z hi hz=>⟨(hT i n z hi hz).1,(hT i n z hi hz).2 hle⟩,hbt,rfl⟩;have f1:g0o (g0f ks ns)=ks.length:=if_neg n1;have f2:g1j (g0f ks ns)=12:=if_neg n1;have hr1:Ripe (g0f ks ns):=⟨.inr rfl,by rw [f1,f2];omega,fun x hx=>(by cases hx),hkk,fun n hn=>by
    have hn:n∈ns:=hn;obtain ⟨i,hi',rfl⟩:=List.mem_iff_getElem.1 hn;have g:=(hT i _ _ (List.getElem?_eq_getElem hi') (List.getElem?_eq_getElem (by omega))).1;exact bk.place_ wt.pre.pk wt.pre.nle (List.mem_append_left _ (List.mem_flatMap.2 ⟨_,List.getElem_mem _,g7o g⟩))⟩
   have hs1:g1u (L.flatMap (·.1),L.flatMap (·.2)).1:=by
    show g1u (L.flatMap (·.1));rw [hen];exact hs
   have F:=g8s hr1 hv1 hs1 (by rw [f1];omega) (by rw [f1,f2];omega);rcases g5x (rest:=[]) wt.pre wt.calm hv1 hr1 F bk (.inr ⟨rfl,rfl⟩) hl with ⟨h1,h2⟩ | ⟨rfl,iT,-,b3,av3,w3⟩
   ·rcases hx with ⟨-,rfl,-⟩ | ⟨hx,-⟩
    ·rw [wt.sz] at h2;exact .inl ⟨h1,by omega⟩
    ·rw [h1] at hx;exact absurd hx (by decide)
   ·rcases hx with ⟨hx,-⟩ | ⟨-,rfl,rfl,rfl⟩
    ·exact absurd rfl hx
    ·refine .inr ⟨rfl,.inr ⟨M+1,r' :: L.flatMap (·.2),?_,?_,?_⟩,wt.trans w3 (fun _ h=>by cases h) (fun _ h=>by cases h)⟩
     ·show ((M+1:Nat):Int)+1=((M+1+1:Nat):Int);omega
     ·rw [<- hen];exact iT
     ·simpa using b3
theorem j9p {d0:St} (hc0:Store.Calm d0) {key:Disk.Bs} {r:Int} {M m:Nat} {a:Int} {ss:List Stp} {A B:Ents} {Q:List Int} (hx:Ctx d0 key r (M+1) m a ss A B Q) :
 ∀ {d:St} {t:T} {p:Pg} {y:Held} {d':St} {t':T} {r' dp' x:Int} {K:Nat},Pre d t->Store.Calm d->d.n=d0.n->(∀ k∈Q,d.get k=d0.get k)->VT d m p y->Ripe p->g1u y.1->(∀ e∈y.1,Fit ss key e.1)->Book t (a :: (y.2++Q)) K ->
  g4w PutR (CRel r ((M+1:Nat):Int) r ((M+1:Nat):Int)) r ((M+1:Nat):Int) ss p d t d' t' r' dp' x ->
  (x=60/\g1b t d.n<=2*ss.length+2)\/(x=0/\j0y d' t' r' dp' (A++y.1++B) K/\Went d t d' t' []):=by
 induction hx with
 | top =>
  intro d t p y d' t' r' dp' x K hp hc hn hg hv hr hs hf hb h;cases h with
  | top h =>
   rcases j9z hp hc hv hr hs (by simpa using hb) h with ⟨h1,h2⟩ | ⟨h1,h2,h3⟩
   ·exact .inl ⟨h1,by simpa using h2⟩
   ·exact .inr ⟨h1,by simpa using h2,h3⟩
 | @step m s ss A B Q n L hpg hl hk hbt hkid hnn hup hfat hfit ih =>
  intro d t p y d' t' r' dp' x K hp hc hn hg hv hr hs hf hb h;have ga:d.get s.at_=d0.get s.at_:=hg _ (List.mem_cons_self ..);have hpg':=hpg.keep hc0 hc hn ga;obtain ⟨j,ej⟩:∃ j,g0y s.p.keys key=j:=⟨_,rfl⟩;have hfy:∀ e∈y.1,g0y s.p.keys e.1=j:=fun e he=>by rw [<- ej];exact hf e he s (List.mem_cons_self ..)
  rw [ej] at hkid hnn hg hb ⊢;have hk':∀ (i:Nat) (n:Int) (z:Held),i≠j->s.p.kids[i]?=some n->L[i]?=some z->IsT d (m+1) n z/\g6i d n:=fun i n' z hij h1 h2=>by
   have g:∀ k∈z.2,d.get k=d0.get k:=fun k hk'=>by
    refine hg k (List.mem_cons_of_mem _ (List.mem_append_left _ (List.mem_flatMap.2 ⟨z,?_,hk'⟩)));rw [List.mem_append];rcases Nat.lt_or_gt_of_ne hij with g | g
    ·left
     refine List.mem_of_getElem? (i:=i) ?_;rw [List.getElem?_take,if_pos g];exact h2
    ·right
     refine List.mem_of_getElem? (i:=i-(j+1)) ?_;rw [List.getElem?_drop,show j+1+(i-(j+1))=i by omega];exact h2
   obtain ⟨g1,g2⟩:=hk i n' z h1 h2;exact ⟨g1.keep hc0 hc hn g,g2.keep hc0 hc hn (g _ (g7o g1))⟩
  have put:∀ {d1:St} {t1:T} {b:Pg} {x:Int},PutR s p d t d1 t1 b x->(x=60/\g1b t d.n<=1)\/(x=0/\∃ z,VT d1 (m+2) b z/\Ripe b/\z.1=(L.take j).flatMap (·.1)++y.1++(L.drop (j+1)).flatMap (·.1)/\Book t1 (s.at_ :: (z.2++Q)) K/\g1b t d.n<=g1b t1 d.n+2/\Went d t d1 t1 (s.at_ :: Q)):=fun {d1 t1 b x} h=>by
   refine (k9g (rest:=s.at_ :: Q) hp hc hpg' hl hk' hbt hkid hnn hv hr hs hfy (hb.perm (List.Perm.cons _ (List.Perm.append_left _ List.perm_middle.symm))) h).imp id ?_;rintro ⟨rfl,z,h1,h2,h3,h4,h5,h6⟩;exact ⟨rfl,z,h1,h2,h3,h4.perm List.perm_middle,h5,h6⟩
  have fits:∀ {z:Held},z.1=(L.take j).flatMap (·.1)++y.1++(L.drop (j+1)).flatMap (·.1)->∀ e∈z.1,Fit ss key e.1:=fun {z} ez e he=>by
   rw [ez] at he;simp only [List.mem_append] at he;rcases he with (he | he) | he
   ·obtain ⟨w,hw,hew⟩:=List.mem_flatMap.1 he;exact hfit e (List.mem_flatMap.2 ⟨w,List.mem_of_mem_take hw,hew⟩)
   ·exact fun s' hs'=>hf e he s' (List.mem_cons_of_mem _ hs')
   ·obtain ⟨w,hw,hew⟩:=List.mem_flatMap.1 he;exact hfit e (List.mem_flatMap.2 ⟨w,List.mem_of_mem_drop hw,hew⟩)
  have ents:∀ {z:Held},z.1=(L.take j).flatMap (·.1)++y.1++(L.drop (j+1)).flatMap (·.1)->A++z.1++B=A++(L.take j).flatMap (·.1)++y.1++((L.drop (j+1)).flatMap (·.1)++B):=fun {z} ez=>by
   rw [ez];simp
  cases h with
  | err hP hx =>
   rcases put hP with ⟨h1,h2⟩ | ⟨h1,-⟩
   ·exact .inl ⟨h1,by omega⟩
   ·exact absurd h1 hx
  | @same _ _ _ _ _ _ _ b hP h1 h2 =>
   rcases put hP with ⟨h1,-⟩ | ⟨-,z,g1,g2,g3,g4,g5,g6⟩
   ·exact absurd h1 (by decide)
   have hit:IsT d' (m+2) s.at_ (z.1,s.at_ :: z.2):=j4i.2 ⟨s.p,z,by rw [if_neg (by omega)];exact hpg'.keep hc g6.calm g6.sz (g6.get _ (List.mem_cons_self ..)),g1.same hpg.2.2 h1.symm h2.symm,rfl⟩;obtain ⟨ps,i1,i2⟩:=plug hc0 g6.calm (g6.sz.trans hn) hup hit (fun hne=>((hfat hne).keep hc0 hc hn ga).keep hc g6.calm g6.sz (g6.get _ (List.mem_cons_self ..))) (fits g3) (fun k hk=>(g6.get k (List.mem_cons_of_mem _ hk)).trans (hg k (by simp [hk])))
   refine .inr ⟨rfl,.inr ⟨M,ps,rfl,?_,g4.perm i2.symm⟩,⟨g6.pre,g6.calm,g6.sz,g6.part,fun _ h=>by cases h⟩⟩;rw [<- ents g3];exact i1
  | @up _ _ _ _ _ d1 t1 b _ _ _ _ _ hP hne hU =>
   rcases put hP with ⟨h1,-⟩ | ⟨-,z,g1,g2,g3,g4,g5,g6⟩
   ·exact absurd h1 (by decide)
   rcases ih g6.pre g6.calm (g6.sz.trans hn) (fun k hk=>(g6.get k (List.mem_cons_of_mem _ hk)).trans (hg k (by simp [hk]))) g1 g2 (k2d g1) (fits g3) g4 hU with ⟨h1,h2⟩ | ⟨h1,h2,h3⟩
   ·rw [g6.sz] at h2;refine .inl ⟨h1,?_⟩;rw [List.length_cons];omega
   ·refine .inr ⟨h1,?_,g6.trans h3 (fun _ h=>by cases h) (fun _ h=>by cases h)⟩;rw [<- ents g3];exact h2
theorem j9w {d:St} {key:Disk.Bs} {r:Int} {M m:Nat} {a:Int} {ss:List Stp} {A B:Ents} {Q:List Int} (h:Ctx d key r M m a ss A B Q):g6z key A B:=by
 induction h with
 | top=>exact ⟨fun _ h=>(by cases h),fun _ h=>by cases h⟩
 | @step m s ss A B Q n L hp hl hk hb hkid hnn hup hfat hfit ih =>
  have h0:=g3c hp;have hr:=((Page.g7x hp.2.2).1 (g2l hp)).1.rises;have hle:=j3x s.p.keys key;obtain ⟨j,ej⟩:∃ j,g0y s.p.keys key=j:=⟨_,rfl⟩;rw [ej] at hle ⊢;have hb':=g4y.1 hb;refine ⟨fun e he=>?_,fun e he=>?_⟩
  ·rcases List.mem_append.1 he with he | he
   ·exact ih.lo e he
   ·obtain ⟨z,hz,hez⟩:=List.mem_flatMap.1 he;obtain ⟨i,hi⟩:=List.mem_iff_getElem?.1 hz;rw [List.getElem?_take] at hi
    split at hi
    ·rename_i hij
     have e1:=List.getElem?_eq_getElem (l:=s.p.keys) (i:=i) (by omega);exact k0e ((hb' i _ e1).1 z hi e hez) (h8i hr ej hij e1)
    ·cases hi
  ·rcases List.mem_append.1 he with he | he
   ·obtain ⟨z,hz,hez⟩:=List.mem_flatMap.1 he;obtain ⟨i,hi⟩:=List.mem_iff_getElem?.1 hz;rw [List.getElem?_drop] at hi;have hlt:=(List.getElem?_eq_some_iff.1 hi).1;have e1:=List.getElem?_eq_getElem (l:=s.p.keys) (i:=j+i) (by omega);exact k0e (h5c hr ej (by omega) e1) ((hb' (j+i) _ e1).2 z (by rw [show j+i+1=j+1+i by omega];exact hi) e hez)
   ·exact ih.hi e he
theorem h8w {d:St} {key:Disk.Bs} {r:Int} {M:Nat} {x:Held} {l:List Stp} {s:Stp} (hx:IsT d (M+1) r x) (hw:WayP d key r (M+1) l s) :
 ∃ A B Q,Ctx d key r (M+1) 1 s.at_ l.reverse A B Q/\x.1=A++s.p.pairs++B/\x.2.Perm (s.at_ :: Q)/\(∀ e∈s.p.pairs,Fit l key e.1)/\g6z key A B:=by
 obtain ⟨hd,hl,hp,-⟩:=hw;obtain ⟨y,A,B,Q,hy,hc,h1,h2,h3,-⟩:=k9a hd hx (by omega);rw [show M-l.length+1=1 by omega] at hy hc;obtain ⟨p,hpp,rfl⟩:=hy;obtain rfl:=g6q hpp hp;exact ⟨A,B,Q,hc,h1,h2,h3,j9w hc⟩
theorem k1w {d d':St} {t t':T} {key:Disk.Bs} {r r' dp' x:Int} {m K:Nat} {es:Ents} {ps:List Int} {l:List Stp} {s:Stp} {np:List (Disk.Bs×Disk.Bs)} (hp:Pre d t) (hc:Store.Calm d) (hT:IsT d (m+1) r (es,ps)) (hb:Book t ps K)
 (hw:WayP d key r (m+1) l s) (h1:Ripe (g0j np)) (h2:g1u np) (h3:∀ e∈np,e∈s.p.pairs\/e.1=key)
 (h:g4w PutR (CRel r ((m+1:Nat):Int) r ((m+1:Nat):Int)) r ((m+1:Nat):Int) l.reverse (g0j np) d t d' t' r' dp' x) :
 ∃ A B,es=A++s.p.pairs++B/\g6z key A B/\((x=60/\g1b t d.n<=2*m+2)\/(x=0/\j0y d' t' r' dp' (A++np++B) K/\Went d t d' t' [])):=by
 have hl:=hw.2.1;obtain ⟨A,B,Q,hx,e1,e2,e3,ar⟩:=h8w hT hw;refine ⟨A,B,e1,ar,?_⟩;have:=j9p hc hx hp hc rfl (fun _ _=>rfl) (y:=(np,[])) ⟨rfl,rfl⟩ h1 h2 (fun e he s' hs'=>?_) (hb.perm e2) h
 ·rw [List.length_reverse,show l.length=m by omega] at this;exact this
 ·rcases h3 e he with g | g
  ·exact e3 e g s' (List.mem_reverse.1 hs')
  ·rw [g]
theorem j5w {d:St} {a:Int} {p:Pg} (h:PgAt d a 1 p) (key val:Disk.Bs) (hk:g3h key) (hv:val.length<=100) :
 (Ripe (g0j (setP p.pairs key val))/\g1u (setP p.pairs key val)/\∀ e∈setP p.pairs key val,e∈p.pairs\/e.1=key)/\(Ripe (g0j (cutP p.pairs key))/\g1u (cutP p.pairs key)/\∀ e∈cutP p.pairs key,e∈p.pairs\/e.1=key):=by
 obtain ⟨q1,-,-,q4⟩:=g9a h (.inl rfl);have hs:g1u p.pairs:=g8z.1 ((Page.h6f h.2.2).1 (g2l h)).1.rises;have hl:=((Page.h6f h.2.2).1 (g2l h)).1.len.2;have f1:∀ l:List (Disk.Bs×Disk.Bs),g0o (g0j l)=l.length:=fun l=>if_pos rfl
 have f2:∀ l:List (Disk.Bs×Disk.Bs),g1j (g0j l)=6:=fun l=>if_pos rfl
 refine ⟨⟨⟨.inl rfl,?_,fun x hx=>?_,fun x hx=>(by cases hx),fun x hx=>(by cases hx)⟩,j4j hs _ _,fun e he=>(j7l he).imp id (fun e=>by rw [e])⟩,⟨.inl rfl,?_,fun x hx=>q1 x (j7p hx),fun x hx=>(by cases hx),fun x hx=>(by cases hx)⟩,j4g hs _,fun e he=>.inl (j7p he)⟩
 ·rw [f1,f2];have:=h4t p.pairs key val;omega
 ·rcases j7l hx with g | rfl
  ·exact q1 x g
  ·exact ⟨hk,hv⟩
 ·rw [f1,f2];have:=g9x p.pairs key;omega
structure Good (d:St) (t:T) (r dp c:Int) (es:Ents) (K:Nat):Prop where
 pre:Pre d t
 calm:Store.Calm d
 tree:j0y d t r dp es K
 cnt:c=(es.length:Int)
theorem Good.sorted {d:St} {t:T} {r dp c:Int} {es:Ents} {K:Nat} (g:Good d t r dp c es K):g1u es:=by
 rcases g.tree with ⟨-,-,rfl,-⟩ | ⟨m,ps,-,h,-⟩
 ·exact List.Pairwise.nil
 ·exact g7l h
theorem h9m (A l B:Ents):(((A++l++B).length:Nat):Int)=(A.length:Int)+(l.length:Int)+(B.length:Int):=by
 simp only [List.length_append];omega
theorem k6i {d d':St} {t t':T} {r c r' dp' c' x:Int} {m K:Nat} {es:Ents} (g:Good d t r ((m+1:Nat):Int) c es K) (key val:Disk.Bs) (hk:g3h key) (hv:val.length<=100)
 (h:g6s (WayP d key r (m+1)) (WayQ d key r (m+1)) (fun l _ np=>g4w PutR (CRel r ((m+1:Nat):Int) r ((m+1:Nat):Int)) r ((m+1:Nat):Int) l.reverse (g0j np) d t) (fun l=>setP l key val) d t r ((m+1:Nat):Int) c d' t' r' dp' c' x) :
 (x=60/\g1b t d.n<=2*m+2)\/(x=0/\Good d' t' r' dp' c' (setP es key val) K/\Went d t d' t' []):=by
 rcases g.tree with ⟨h0,-⟩ | ⟨m',ps,h0,hT,hb⟩
 ·omega
 obtain rfl:m'=m:=by omega
 rcases h with ⟨l,s,hw,he,rfl,rfl,rfl,rfl,rfl,rfl⟩ | ⟨l,s,hw,he,hU,rfl⟩ | ⟨hQ,-⟩
 ·obtain ⟨A,B,Q,-,e1,-,-,ar⟩:=h8w hT hw;have e1:es=A++s.p.pairs++B:=e1;have he:setP s.p.pairs key val=s.p.pairs:=he;have:setP es key val=es:=by rw [e1,j6o ar,he]
  rw [this];exact .inr ⟨rfl,g,⟨g.pre,g.calm,rfl,Part.refl _,fun _ _=>rfl⟩⟩
 ·obtain ⟨l1,l2,l3⟩:=(j5w hw.2.2.1 key val hk hv).1;obtain ⟨A,B,e1,ar,hx⟩:=k1w g.pre g.calm hT hb hw l1 l2 l3 hU;rcases hx with ⟨rfl,h2⟩ | ⟨rfl,h2,h3⟩
  ·exact .inl ⟨rfl,h2⟩
  ·rw [e1,j6o ar];refine .inr ⟨rfl,⟨h3.pre,h3.calm,h2,?_⟩,h3⟩;rw [if_pos rfl,g.cnt,e1,h9m,h9m];show _+(((setP s.p.pairs key val).length:Int) - _)=_;omega
 ·exact absurd hQ (h2c hT)
theorem k8h {d d':St} {t t':T} {r c r' dp' c' x:Int} {m K:Nat} {es:Ents} {had:Bool} (g:Good d t r ((m+1:Nat):Int) c es K) (key:Disk.Bs)
 (h:CutD (WayP d key r (m+1)) (WayQ d key r (m+1)) (fun l _ np=>g4w PutR (CRel r ((m+1:Nat):Int) r ((m+1:Nat):Int)) r ((m+1:Nat):Int) l.reverse (g0j np) d t) key d t r ((m+1:Nat):Int) c d' t' r' dp' c' x had) :
 had=g2j (keysOf es) key/\((x=60/\g1b t d.n<=2*m+2)\/(x=0/\Good d' t' r' dp' c' (cutP es key) K/\Went d t d' t' [])):=by
 rcases g.tree with ⟨h0,-⟩ | ⟨m',ps,h0,hT,hb⟩
 ·omega
 obtain rfl:m'=m:=by omega
 rcases h with ⟨l,s,hw,he,rfl,rfl,rfl,rfl,rfl,rfl,rfl⟩ | ⟨l,s,hw,he,hU,rfl,rfl⟩ | ⟨hQ,-⟩
 ·obtain ⟨A,B,Q,-,e1,-,-,ar⟩:=h8w hT hw;have e1:es=A++s.p.pairs++B:=e1;have:cutP es key=es:=by rw [e1,j6u ar,he]
  rw [this];refine ⟨by rw [e1,g8g ar],.inr ⟨rfl,g,⟨g.pre,g.calm,rfl,Part.refl _,fun _ _=>rfl⟩⟩⟩
 ·obtain ⟨l1,l2,l3⟩:=(j5w hw.2.2.1 key [] ((g9a hw.2.2.1 (.inl rfl)).1 |> fun q=>by
   by_cases hne:g2j (keysOf s.p.pairs) key=true
   ·obtain ⟨h1,h2⟩:=(g5a _ _).1 hne;have hm:key∈keysOf s.p.pairs:=h2 ▸ List.getElem_mem h1;obtain ⟨e,hme,rfl⟩:=List.mem_map.1 hm;exact (q e hme).1
   ·exfalso
    apply he;unfold cutP g1d;rw [if_neg hne,List.take_append_drop]) (Nat.zero_le _)).2
  obtain ⟨A,B,e1,ar,hx⟩:=k1w g.pre g.calm hT hb hw l1 l2 l3 hU;refine ⟨by rw [e1,g8g ar],?_⟩;rcases hx with ⟨rfl,h2⟩ | ⟨rfl,h2,h3⟩
  ·exact .inl ⟨rfl,h2⟩
  ·rw [e1,j6u ar];refine .inr ⟨rfl,⟨h3.pre,h3.calm,h2,?_⟩,h3⟩;rw [if_pos rfl,g.cnt,e1,h9m,h9m];omega
 ·exact absurd hQ (h2c hT)
theorem j9n {d d':St} {t t':T} {r c r' dp' c' x:Int} {K:Nat} {es:Ents} (g:Good d t r 0 c es K) (key val:Disk.Bs) (hk:g3h key) (hv:val.length<=100)
 (h:g6s NilP (fun _=>False) (fun _ s np=>CRel s.at_ 1 r 0 (g0j np) d t) (fun l=>setP l key val) d t r 0 c d' t' r' dp' c' x) :
 (x=60/\g1b t d.n<=2)\/(x=0/\Good d' t' r' dp' c' (setP es key val) K/\Went d t d' t' []):=by
 rcases g.tree with ⟨-,rfl,rfl,hb⟩ | ⟨m',ps,h0,-⟩
 rotate_left
 ·omega
 have e0:setP ([]:Ents) key val=[(key,val)]:=rfl;rcases h with ⟨l,s,⟨rfl,rfl⟩,he,-⟩ | ⟨l,s,⟨rfl,rfl⟩,he,hU,rfl⟩ | ⟨hQ,-⟩
 ·have he:setP ([]:Ents) key val=[]:=he;rw [e0] at he;cases he
 ·have hU:CRel 0 1 0 0 (g0j [(key,val)]) d t d' t' r' dp' x:=hU;have f1:g0o (g0j [(key,val)])=1:=if_pos rfl;have f2:g1j (g0j [(key,val)])=6:=if_pos rfl;have hr:Ripe (g0j [(key,val)]):=⟨.inl rfl,by rw [f1,f2];omega,fun x hx=>by
   have hx:x∈[(key,val)]:=hx;rw [List.mem_singleton] at hx;rw [hx];exact ⟨hk,hv⟩,fun x hx=>(by cases hx),fun x hx=>(by cases hx)⟩
  have hvt:VT d 1 (g0j [(key,val)]) ([(key,val)],[]):=⟨rfl,rfl⟩;have F:=g8s hr hvt (h7j _) (by rw [f1];omega) (by rw [f1,f2];omega);rcases hU with ⟨h0,-⟩ | ⟨-,d1,t1,ks,ns,x1,hS,hx⟩
  ·rw [f1] at h0;omega
  obtain ⟨t2,os1,x2,hD,hR⟩:=hS;have eP:g4h (g0j [(key,val)])=[g0j [(key,val)]]:=if_neg (by rw [f1,f2];omega);have eK:g6m (g0j [(key,val)])=[]:=if_neg (by rw [f1,f2];omega);rw [eP] at hD hR;have hh:t2=t/\os1=[0]/\x2=0:=by
   cases hD with
   | done _=>exact ⟨rfl,rfl,rfl⟩
   | fail h _ _=>simp at h
   | step h _ _=>simp at h
  obtain ⟨rfl,rfl,rfl⟩:=hh;rcases hR with ⟨h,-⟩ | ⟨-,hL,hks⟩
  ·exact absurd rfl h
  have go:∀ {d1:St} {t1:T} {n e:Int},LayR d t2 0 (g0j [(key,val)]) d1 t1 n e->(e=60/\g1b t2 d.n=0)\/(e=0/\IsT d1 1 n ([(key,val)],[n])/\Book t1 [n] K/\Went d t2 d1 t1 []):=fun hl=>by
   rcases g5x (rest:=[]) (qs:=[]) g.pre g.calm hvt hr F hb (.inr ⟨rfl,rfl⟩) hl with h | ⟨h1,h2,-,h3,-,h4⟩
   ·exact .inl h
   ·exact .inr ⟨h1,h2,h3,h4⟩
  cases hL with
  | done h=>simp at h
  | fail hb' hl hne =>
   simp only [List.getElem?_cons_zero,Option.some.injEq] at hb';subst hb';rcases go hl with ⟨h1,h2⟩ | ⟨h1,-⟩
   ·rcases hx with ⟨-,rfl,-⟩ | ⟨h,-⟩ | ⟨h,-⟩
    ·exact .inl ⟨h1,by omega⟩
    ·exact absurd h hne
    ·exact absurd h hne
   ·exact absurd h1 hne
  | step hb' hl hr' =>
   simp only [List.getElem?_cons_zero,Option.some.injEq] at hb';subst hb';rcases go hl with ⟨h1,-⟩ | ⟨-,h2,h3,h4⟩
   ·exact absurd h1 (by decide)
   cases hr' with
   | fail hb _ _=>simp at hb
   | step hb _ _=>simp at hb
   | done _ =>
    rw [if_pos rfl,eK] at hks;rcases hx with ⟨h,-⟩ | ⟨-,-,rfl,rfl,rfl,rfl,rfl⟩ | ⟨-,h,-⟩
    ·exact absurd rfl h
    ·refine .inr ⟨rfl,⟨h4.pre,h4.calm,.inr ⟨0,_,rfl,h2,h3⟩,?_⟩,h4⟩;have:=g.cnt;rw [if_pos rfl];show c+((1:Int)-0)=1;have e:((([]:Ents).length:Nat):Int)=0:=rfl;omega
    ·exact absurd hks h
 ·exact hQ.elim
theorem k4k {d d':St} {t t':T} {r c r' dp' c' x:Int} {K:Nat} {es:Ents} {had:Bool} (g:Good d t r 0 c es K) (key:Disk.Bs)
 (h:CutD NilP (fun _=>False) (fun _ s np=>CRel s.at_ 1 r 0 (g0j np) d t) key d t r 0 c d' t' r' dp' c' x had) :
 had=g2j (keysOf es) key/\x=0/\Good d' t' r' dp' c' (cutP es key) K/\Went d t d' t' []:=by
 rcases g.tree with ⟨-,rfl,rfl,hb⟩ | ⟨m',ps,h0,-⟩
 rotate_left
 ·omega
 have e0:cutP ([]:Ents) key=[]:=rfl;rcases h with ⟨l,s,⟨rfl,rfl⟩,he,rfl,rfl,rfl,rfl,rfl,rfl,rfl⟩ | ⟨l,s,⟨rfl,rfl⟩,he,-⟩ | ⟨hQ,-⟩
 ·rw [e0];exact ⟨rfl,rfl,g,⟨g.pre,g.calm,rfl,Part.refl _,fun _ _=>rfl⟩⟩
 ·exact absurd rfl he
 ·exact hQ.elim
theorem k9m {d:St} {t:T} {r c:Int} {m K:Nat} {es:Ents} (g:Good d t r ((m+1:Nat):Int) c es K) (key:Disk.Bs) {l:List Stp} {s:Stp} (hw:WayP d key r (m+1) l s):valOf s.p.pairs key=valOf es key/\g2j (keysOf s.p.pairs) key=g2j (keysOf es) key:=by
 rcases g.tree with ⟨h0,-⟩ | ⟨m',ps,h0,hT,hb⟩
 ·omega
 obtain rfl:m'=m:=by omega
 obtain ⟨A,B,Q,-,e1,-,-,ar⟩:=h8w hT hw;have e1:es=A++s.p.pairs++B:=e1;rw [e1,k4r ar,g8g ar];exact ⟨rfl,rfl⟩
theorem h5d:∀ {L:List Held},(∀ z∈L,2*z.2.length+1<=z.1.length)->2*(L.flatMap (·.2)).length+L.length<=(L.flatMap (·.1)).length
 | [],_=>Nat.le_refl _
 | z :: L,h=>by
  have h1:=h z (List.mem_cons_self ..);have h2:=h5d (L:=L) (fun z hz=>h z (List.mem_cons_of_mem _ hz));simp only [List.flatMap_cons,List.length_append,List.length_cons];omega
theorem h8v {N:Nat}:∀ {L:List Held},(∀ z∈L,N<=z.1.length)->L.length*N<=(L.flatMap (·.1)).length
 | [],_=>by simp
 | z :: L,h=>by
  have h1:=h z (List.mem_cons_self ..);have h2:=h8v (L:=L) (fun z hz=>h z (List.mem_cons_of_mem _ hz));simp only [List.flatMap_cons,List.length_append,List.length_cons];rw [Nat.add_mul];omega
theorem h6n {d:St}:∀ {m:Nat} {a:Int} {x:Held},IsT d m a x->g6i d a->2*x.2.length+1<=x.1.length/\2 ^ m<=x.1.length
 | 0,_,_,h,_=>h.elim
 | 1,a,x,⟨p,hp,e⟩,⟨k,q,hq,hf⟩=>by
  obtain rfl:=g6q hp hq;unfold g0p g0o at hf;rw [if_pos hp.2.2,if_pos hp.2.2] at hf;rw [e];exact ⟨by simpa using hf,by simp only [Nat.pow_one];omega⟩
 | m+2,a,x,⟨p,L,hp,hl,hk,hb,e⟩,⟨k,q,hq,hf⟩=>by
  obtain rfl:=g6q hp hq;have h0:=g3c hp;unfold g0p g0o at hf;rw [if_neg (by rw [hp.2.2];decide),if_neg (by rw [hp.2.2];decide)] at hf;have key:∀ z∈L,2*z.2.length+1<=z.1.length/\2 ^ (m+1)<=z.1.length:=fun z hz=>by
   obtain ⟨i,hi,rfl⟩:=List.mem_iff_getElem.1 hz;have g:=hk i _ _ (List.getElem?_eq_getElem (by omega)) (List.getElem?_eq_getElem hi);exact h6n g.1 g.2
  have s1:=h5d (fun z hz=>(key z hz).1);have s2:=h8v (fun z hz=>(key z hz).2);have s3:2*2 ^ (m+1)<=L.length*2 ^ (m+1):=Nat.mul_le_mul_right _ (by omega);rw [e];refine ⟨?_,?_⟩
  ·simp only [List.length_cons];omega
  ·rw [Nat.pow_succ 2 (m+1)];show _<=(L.flatMap (·.1)).length;omega
theorem j1p {d:St}:∀ {m:Nat} {a:Int} {x:Held},IsT d (m+1) a x->2*x.2.length<=x.1.length+2/\2 ^ m<=x.1.length
 | 0,a,x,⟨p,hp,e⟩=>by
  have:=((Page.h6f hp.2.2).1 (g2l hp)).1.len.1;rw [e];exact ⟨by simp,by simpa using this⟩
 | m+1,a,x,⟨p,L,hp,hl,hk,hb,e⟩=>by
  have h0:=g3c hp;have h1:=((Page.g7x hp.2.2).1 (g2l hp)).1.len.1;have key:∀ z∈L,2*z.2.length+1<=z.1.length/\2 ^ (m+1)<=z.1.length:=fun z hz=>by
   obtain ⟨i,hi,rfl⟩:=List.mem_iff_getElem.1 hz;have g:=hk i _ _ (List.getElem?_eq_getElem (by omega)) (List.getElem?_eq_getElem hi);exact h6n g.1 g.2
  have s1:=h5d (fun z hz=>(key z hz).1);have s2:=h8v (fun z hz=>(key z hz).2);have s3:1*2 ^ (m+1)<=L.length*2 ^ (m+1):=Nat.mul_le_mul_right _ (by omega);rw [e];refine ⟨?_,?_⟩
  ·simp only [List.length_cons];omega
  ·show _<=(L.flatMap (·.1)).length;omega
theorem j2n {m n:Nat} (h:2 ^ m<=n) (hn:n<512):m<9:=by
 rcases Nat.lt_or_ge m 9 with g | g
 ·exact g
 ·have:=Nat.pow_le_pow_right (show 0<2 by decide) g;omega
theorem h6o {t:T} {ps:List Int} {K:Nat} {N:Int} (h:Book t ps K) (hk:Pool.g0g t.pool N):((g1b t N+ps.length+t.own.length+t.pool.limbo.length+2:Nat):Int)=N:=by
 have h1:=h.acct.cnt;have h2:=hk.top;unfold g1b;omega
theorem Good.room {d:St} {t:T} {r dp c:Int} {es:Ents} {K:Nat} (g:Good d t r dp c es K) (he:es.length<512):(dp=0\/∃ m:Nat,dp=((m+1:Nat):Int)/\m<9)/\d.n<=g1b t d.n+(es.length+2) / 2+t.own.length+K+2:=by
 rcases g.tree with ⟨rfl,-,rfl,hb⟩ | ⟨m,ps,rfl,hT,hb⟩
 ·have:=h6o hb g.pre.pk;have:=hb.cold;refine ⟨.inl rfl,?_⟩;simp only [List.length_nil] at *;omega
 ·have:=h6o hb g.pre.pk;have:=hb.cold;obtain ⟨h1,h2⟩:=j1p hT;have h1:2*ps.length<=es.length+2:=h1;exact ⟨.inr ⟨m,rfl,j2n h2 he⟩,by omega⟩
open Page (Pg Lay less Enc g0v Lt g1l g3h Fine h4q g6w)
open Pool (Po g0k g1g g1k g0g chunks layAll May Rise)
theorem chunk_ok:∀ {l:List Int},Rise l->(∀ x∈l,Page.Place x)->∀ c∈chunks l,c.length<=200/\Rise c/\∀ x∈c,Page.Place x:=by
 intro l;obtain ⟨n,hn⟩:∃ n,l.length=n:=⟨_,rfl⟩
 induction n using Nat.strongRecOn generalizing l with
 | ind n ih =>
  intro hr hp c hc
  by_cases h:l.length=0
  ·rw [List.eq_nil_of_length_eq_zero h] at hc;cases hc
  ·rw [Pool.g6c l h] at hc;rcases List.mem_cons.1 hc with rfl | hc
   ·exact ⟨by rw [List.length_take];omega,List.Pairwise.sublist (List.take_sublist _ _) hr,fun x hx=>hp x (List.mem_of_mem_take hx)⟩
   ·exact ih (l.drop 200).length (by rw [List.length_drop];omega) rfl (List.Pairwise.sublist (List.drop_sublist _ _) hr) (fun x hx=>hp x (List.mem_of_mem_drop hx)) c hc
theorem k2n {own:List Int} {l:List Int} (ho:∀ x∈own,Page.Place x) (hr:Rise l) (hp:∀ x∈l,Page.Place x) (k:Nat):Fine (h0c own (chunks l) k):=by
 have hc:(chunks l).getD k []=[]\/(chunks l).getD k []∈chunks l:=by
  rcases Nat.lt_or_ge k (chunks l).length with h | h
  ·right;rw [getD_at h];exact List.getElem_mem h
  ·left;rw [List.getD_eq_getElem?_getD,List.getElem?_eq_none h];rfl
 have hc':((chunks l).getD k []).length<=200/\Rise ((chunks l).getD k [])/\∀ x∈(chunks l).getD k [],Page.Place x:=by
  rcases hc with e | e
  ·rw [e];exact ⟨Nat.zero_le _,List.Pairwise.nil,fun x hx=>by cases hx⟩
  ·exact chunk_ok hr hp _ e
 refine (Page.p2x rfl).2 ⟨⟨hc'.1,hc'.2.2,(Pool.j7h _).1 hc'.2.1,?_⟩,rfl,rfl,rfl,⟨rfl,rfl,rfl,rfl,rfl⟩⟩;show own.getD (k+1) 0=0\/Page.Place (own.getD (k+1) 0);rcases Nat.lt_or_ge (k+1) own.length with h | h
 ·right;rw [getD_at h];exact ho _ (List.getElem_mem h)
 ·left;rw [List.getD_eq_getElem?_getD,List.getElem?_eq_none h];rfl
theorem j4d {own:List Int} {ls:List (List Int)} {d d':St} {k:Nat} {x:Int} (h:g4s own ls d k d' x):Store.Calm d->(∀ z∈own,2<=z/\z<(d.n:Int))->(∀ j,(hj:j<own.length)->∃ l,Enc own[j] (h0c own ls j) l)->x=0:=by
 induction h with
 | done _=>exact fun _ _ _=>rfl
 | fail hk hw hx =>
  intro hc ho he;rw [getD_at hk] at hw;have:=ho _ (List.getElem_mem hk);exact absurd (g5c hw hc (by omega) (by omega) (he _ hk)) hx
 | step hk hw _ ih =>
  intro hc ho he;have g:=hw.writ;exact ih (g.calm hc) (fun z hz=>by rw [g.n];exact ho z hz) he
theorem j6s {d:St} (h:Store.Calm d) (x:Int):d.sync.get x=d.get x:=by
 obtain ⟨h1,h2⟩:=h1c (g3a h).2;rw [St.get,h2 x,<- h1 x]
 rfl
def g5o (t:T):T:={t with own:=[]}
theorem h6z (t:T) (N:Int):g0h (g5o t) N=(g5o (g0h t N).1,(g0h t N).2.1,(g0h t N).2.2):=by
 unfold g0h g5o;show (if (g0k t.pool N).2.2=0 then _ else _:T×Int×Int)=_
 split <;> rfl
theorem j7v (t:T) (n:Int):g1n (g5o t) n=(g5o (g1n t n).1,(g1n t n).2):=by
 unfold g1n g2r g2k frT g5o
 by_cases hf:t.fresh n=true <;> by_cases h1:(g1k t.pool n).2=0 <;> by_cases h2:(g1g t.pool n).2=0 <;> simp [hf,h1,h2]
theorem h7s {t:T} {ps:List Int}:Acct t ps↔Acct (g5o t) (ps++t.own):=by
 constructor
 ·intro h;refine ⟨fun x hx=>(List.mem_append.1 hx).elim (h.may x) (h.own x),fun x hx=>(by cases hx),by show ((ps++t.own)++[]).Nodup;rw [List.append_nil];exact h.nd,?_⟩;have:=h.cnt;show (((ps++t.own).length+([]:List Int).length+t.pool.free.length+t.pool.limbo.length:Nat):Int)+2=t.pool.high;rw [List.length_append,List.length_nil];omega
 ·intro h;refine ⟨fun x hx=>h.may x (List.mem_append_left _ hx),fun x hx=>h.may x (List.mem_append_right _ hx),?_,?_⟩
  ·have:=h.nd;have e:(ps++t.own)++(g5o t).own=ps++t.own:=List.append_nil _;rw [e] at this;exact this
  ·have:=h.cnt;have e:(((ps++t.own).length+([]:List Int).length+t.pool.free.length+t.pool.limbo.length:Nat):Int)+2=t.pool.high:=this;rw [List.length_append,List.length_nil] at e;omega
theorem h2t (N:Int) (ps:List Int):∀ (l:List Int) {t:T},Acct (g5o t) (l++ps)->Acct (g5o (g2c t l)) ps/\g1b t N<=g1b (g2c t l) N
 | [],t,h=>⟨h,Nat.le_refl _⟩
 | n :: l,t,h=>by
  obtain ⟨-,b,a⟩:=(Book.mk (K:=g3k (g5o t) ((n :: l)++ps)+(g5o t).pool.limbo.length) h (Nat.le_refl _)).drop (ps:=l++ps) N;rw [j7v] at b a;obtain ⟨h1,h2⟩:=h2t N ps l (t:=(g1n t n).1) b.acct;have a:g1b t N<=g1b (g1n t n).1 N:=a;exact ⟨h1,Nat.le_trans a h2⟩
theorem j9u {N:Int} {ps:List Int} {M:Nat} {t t':T} {own own':List Int} {x:Int} (h:g5m N t own t' own' x):g0g t.pool N->Acct (g5o t) (own++ps)->many t.pool<=M->own.length<=M ->
 (x≠0/\g1b t N+own.length<M)\/(x=0/\Acct (g5o t') (own'++ps)/\own'.length<=M/\g0g t'.pool N/\many t'.pool<=own'.length):=by
 induction h with
 | done h=>exact fun hk ha hm hl=>.inr ⟨rfl,ha,hl,hk,h⟩
 | @fail t own h hx =>
  intro hk ha hm hl;rcases h2s hk with ⟨g1,-⟩ | ⟨g1,g2⟩
  ·exact absurd g1 hx
  ·exact .inl ⟨hx,by omega⟩
 | @step t own t' own' x h hx _ ih =>
  intro hk ha hm hl;rcases h2s hk with ⟨g1,g2,g3,g4⟩ | ⟨g1,g2⟩
  rotate_left
  ·rw [hx] at g1;exact absurd g1 (by decide)
  have a1:Acct (g5o (g0h t N).1) ((g0h t N).2.1 :: (own++ps)):=by
   have hx':(g0h (g5o t) N).2.2=0:=by rw [h6z];exact hx
   have:=ha.take (N:=N) hk hx';rw [h6z] at this;exact this
  rcases ih (g5g hk) (a1.perm (by simp only [List.append_assoc,List.singleton_append];exact List.perm_middle.symm)) (Nat.le_trans (h5q t N) hm) (by rw [List.length_append,List.length_singleton];omega) with ⟨h1,h2⟩ | h1
  ·rw [List.length_append,List.length_singleton] at h2;exact .inl ⟨h1,by omega⟩
  ·exact .inr h1
theorem k9d {t:T} {p:Pg} {own ps:List Int} (h:Acct (g5o t) (own++ps)):Acct (newT t p own) ps:=by
 have up:∀ x,May t.pool x->May (h1w t.pool) x:=fun x hx=>⟨hx.1,fun hf=>by
  rcases (Pool.g5v t.pool.free t.pool.limbo x).1 hf with e | e
  ·exact hx.2.1 e
  ·exact hx.2.2 e,fun hl=>by cases hl⟩
 have hnd:(own++ps).Nodup:=by
  have:=h.nd;have e:(own++ps)++(g5o t).own=own++ps:=List.append_nil _;rw [e] at this;exact this
 refine ⟨fun x hx=>up x (h.may x (List.mem_append_right _ hx)),fun x hx=>up x (h.may x (List.mem_append_left _ hx)),(List.perm_append_comm.nodup_iff).1 hnd,?_⟩;have:=h.cnt;have e:(((own++ps).length+([]:List Int).length+t.pool.free.length+t.pool.limbo.length:Nat):Int)+2=t.pool.high:=this;show ((ps.length+own.length+(layAll t.pool.free t.pool.limbo).length+([]:List Int).length:Nat):Int)+2=t.pool.high
 rw [Pool.g8w];simp only [List.length_append,List.length_nil] at e ⊢;omega
theorem h2u {d:St} {t:T} {r dp:Int} {es:Ents} {K:Nat} (h:j0y d t r dp es K):∃ ps,Book t ps K/\((dp=0/\r=0/\es=[]/\ps=[])\/∃ m:Nat,dp=((m+1:Nat):Int)/\IsT d (m+1) r (es,ps)):=by
 rcases h with ⟨h1,h2,h3,h4⟩ | ⟨m,ps,h1,h2,h3⟩
 ·exact ⟨[],h4,.inl ⟨h1,h2,h3,rfl⟩⟩
 ·exact ⟨ps,h3,.inr ⟨m,h1,h2⟩⟩
structure Kept (d:St) (t:T) (r dp c:Int) (es:Ents):Prop where
 safe:Store.Safe d t
 calm:Store.Calm d
 tree:∃ ps,Acct {t with pool:=t.base} ps/\2*ps.length<=es.length+2/\(∀ x∈ps,Live t.base x)/\((dp=0/\r=0/\es=[]/\ps=[])\/∃ m:Nat,dp=((m+1:Nat):Int)/\IsT d (m+1) r (es,ps))
 cnt:c=(es.length:Int)
 limbo:t.base.limbo=[]
 sup:t.sup.root=r/\t.sup.depth=dp/\t.sup.count=c
theorem k4v {d d':St} {t t':T} {r dp c x:Int} {es:Ents} {K:Nat} (g:Good d t r dp c es K) (he:es.length<512) (hep:t.sup.epoch+1<18446744073709551616) (hav:21<=g1b t d.n) (hn:2<=d.n) (h:g6g d t r dp c d' t' x) :
 x=0/\Good d' t' r dp c es ((es.length+2) / 2)/\Kept d' t' r dp c es/\t'.own.length<=21/\t'.sup.epoch=t.sup.epoch+1/\d'.n=d.n:=by
 obtain ⟨ps,hb,hT⟩:=h2u g.tree;have hpk:=g.pre.pk;have hnle:=g.pre.nle;have hcnt:=hb.acct.cnt;have htop:=hpk.top;have hlow:=hpk.low;have hrt:(r=0\/Page.Place r)/\(dp=0↔r=0)/\(c=0↔r=0)/\0<=dp/\dp<=20/\2*ps.length<=es.length+2:=by
  rcases hT with ⟨rfl,rfl,rfl,rfl⟩ | ⟨m,rfl,hT⟩
  ·have:=g.cnt;simp only [List.length_nil] at this;exact ⟨.inl rfl,Iff.rfl,⟨fun _=>rfl,fun _=>this⟩,by omega,by omega,by simp⟩
  ·obtain ⟨s1,s2⟩:=j1p hT;have s1:2*ps.length<=es.length+2:=s1;have s2:2 ^ m<=es.length:=s2;have s3:=j2n s2 he;have s4:0<2 ^ m:=Nat.pow_pos (by decide);have hpl:=hb.place_ hpk hnle (g7o hT);have:=g.cnt;unfold Page.Place at hpl ⊢;exact ⟨.inr hpl,by omega,by omega,by omega,by omega,s1⟩
 obtain ⟨q1,q2,q3,q4,q5,q6⟩:=hrt;have hcn:=g.cnt;have hso:g6w (g1q t r dp c):=⟨q1,.inl rfl,⟨hlow,by show t.pool.high<=4096;omega⟩,⟨q4,q5⟩,q2,⟨by show 0<=c;omega,by show c<=2147483647;omega⟩,q3⟩;have hfine:=g8v (p:=g1q t r dp c) rfl hso (g9v _ _ _ _);have hM:many (g2c t t.own).pool<=21:=by
  have a1:=(h2t (N:=d.n) ps t.own (t:=t) ((h7s.1 hb.acct).perm List.perm_append_comm)).1.cnt;have a1:((ps.length+([]:List Int).length+(g2c t t.own).pool.free.length+(g2c t t.own).pool.limbo.length:Nat):Int)+2=(g2c t t.own).pool.high:=a1;have:=(g9g t.own hpk).top;rw [h3y];omega
 obtain ⟨aD,avD⟩:=h2t (N:=d.n) ps t.own (t:=t) ((h7s.1 hb.acct).perm List.perm_append_comm);have tk:∀ {t2:T} {own:List Int} {x:Int},g5m d.n (g2c t t.own) [] t2 own x->x=0/\Acct (g5o t2) (own++ps)/\own.length<=21/\g0g t2.pool d.n/\many t2.pool<=own.length:=fun ht=>by
  rcases j9u (ps:=ps) (M:=21) ht (g9g t.own hpk) aD hM (Nat.zero_le _) with ⟨-,h2⟩ | h1
  ·simp only [List.length_nil] at h2;omega
  ·exact h1
 have pl:∀ {t2:T} {own:List Int},Acct (g5o t2) (own++ps)->g0g t2.pool d.n->∀ z∈own,(2<=z/\z<(d.n:Int))/\Page.Place z:=fun a k z hz=>by
  have h1:2<=z/\z<_:=(a.may z (List.mem_append_left _ hz)).1;have h2:=k.top;have h3:z<(g5o _).pool.high:=h1.2;have h4:z<(d.n:Int):=Int.lt_of_lt_of_le h3 h2;exact ⟨⟨h1.1,h4⟩,h1.1,by omega⟩
 have wr:∀ {t2:T} {own:List Int} {d2:St} {x:Int},Acct (g5o t2) (own++ps)->g0g t2.pool d.n->g4s own (chunks (layAll t2.pool.free t2.pool.limbo)) d 0 d2 x->x=0:=fun {t2 own d2 x} a k hw=>by
  have hto:=h9n k;refine j4d hw g.calm (fun z hz=>(pl a k z hz).1) (fun j hj=>g5z (pl a k _ (List.getElem_mem hj)).2 (k2n (fun z hz=>(pl a k z hz).2) hto.free (fun z hz=>?_) j) (by show (3:Int)≠4;decide));have:=hto.f z hz;have h2:=k.top;have h3:z<t2.pool.high:=this.2;exact ⟨this.1,by omega⟩
 have ld:∀ {t2:T} {own:List Int},Acct (g5o t2) (own++ps)->g0g t2.pool d.n->∃ l,Enc (((g1q t r dp c).epoch % 2:Nat):Int) (g4d (g1q t r dp c) t2 own) l:=fun {t2 own} a k=>by
  refine j0s (by omega) (g8v (p:=g4d (g1q t r dp c) t2 own) rfl ⟨q1,?_,⟨k.low,by have:=k.top;show t2.pool.high<=4096;omega⟩,⟨q4,q5⟩,q2,⟨by show 0<=c;omega,by show c<=2147483647;omega⟩,q3⟩ ⟨rfl,rfl,rfl,rfl⟩) rfl;show own.headD 0=0\/Page.Place (own.headD 0);rcases own with _ | ⟨o,os⟩
  ·exact .inl rfl
  ·exact .inr (pl a k o (List.mem_cons_self ..)).2
 have hend:=g9w g.pre hep h;rcases h with ⟨hno,-⟩ | ⟨-,⟨t2,hx,hh,-⟩ | ⟨rfl,t2,p,own,hr,rfl⟩⟩
 ·exact absurd hfine hno
 ·exfalso
  cases hh with
  | take ht h=>exact h (tk ht).1
  | list r1 hw h =>
   cases r1 with
   | take ht =>
    obtain ⟨-,a,-,k,-⟩:=tk ht;exact h (wr a k hw)
  | sync r1 h =>
   cases r1 with
   | list r1 hw=>exact h (g3a (by
    have:∀ {d1 d2:St} {own:List Int} {ls:List (List Int)} {k:Nat} {x:Int},g4s own ls d1 k d2 x->Store.Calm d1->Store.Calm d2:=fun hw=>by
     induction hw with
     | done _=>exact id
     | fail _ hw _=>exact hw.writ.calm
     | step _ hw _ ih=>exact fun hc=>ih (hw.writ.calm hc)
    cases r1 with
    | take ht=>exact this hw g.calm)).2
  | lead r1 hw h =>
   obtain ⟨f,-⟩:=g7i g.pre r1;cases r1 with
   | sync r1 hs =>
    cases r1 with
    | list r1 hw0 =>
     cases r1 with
     | take ht =>
      obtain ⟨-,a,-,k,-⟩:=tk ht;exact h (g5c hw (f.calm g.calm) (by omega) (by rw [f.step.n];omega) (ld a k))
  | last r1 h =>
   cases r1 with
   | lead r1 hw =>
    obtain ⟨f,-⟩:=g7i g.pre r1;exact h (g3a (hw.writ.calm (f.calm g.calm))).2
 ·rcases hend with ⟨hx,-⟩ | ⟨hx,-⟩ | ⟨-,md⟩
  ·exact absurd rfl hx
  ·exact absurd rfl hx
  have hcm:=md.calm g.calm;cases hr with
  | last r1 hs2 =>
   cases r1 with
   | lead r1 hwl =>
    cases r1 with
    | sync r1 hs =>
     cases r1 with
     | list r1 hw0 =>
      cases r1 with
      | take ht =>
       obtain ⟨-,a,hol,k,-⟩:=tk ht;have W:=hw0.writs (by
        have:=a.nd;have e:(own++ps)++(g5o t2).own=own++ps:=List.append_nil _;rw [e] at this;exact (List.nodup_append.1 this).1)
       have gl:=hwl.writ;have c1:=W.calm g.calm;have c2:=(g3a c1).1;have c3:=gl.calm c2;have hnd:(own++ps).Nodup:=by
        have:=a.nd;have e:(own++ps)++(g5o t2).own=own++ps:=List.append_nil _;rw [e] at this;exact this
       have hget:∀ z∈ps,St.get (St.sync _) z=d.get z:=fun z hz=>by
        have hz2:2<=z:=(a.may z (List.mem_append_right _ hz)).1.1;rw [j6s c3,j6c gl (by omega),j6s c1,St.get,St.get,W.L,W.C z (fun ho=>(List.nodup_append.1 hnd).2.2 z ho z hz rfl)]
       have na:=k9d (p:=g4d (g1q t r dp c) t2 own) a;have hT':(dp=0/\r=0/\es=[]/\ps=[])\/∃ m:Nat,dp=((m+1:Nat):Int)/\IsT _ (m+1) r (es,ps):=hT.imp id (fun ⟨m,e,h⟩=>⟨m,e,h.keep g.calm hcm md.n hget⟩);have bk:Book (newT t2 (g4d (g1q t r dp c) t2 own) own) ps ((es.length+2) / 2):=⟨na,by
        have e:g3k (newT t2 (g4d (g1q t r dp c) t2 own) own) ps=ps.length:=by
         unfold g3k
         congr 1
         exact List.filter_eq_self.2 (fun _ _=>rfl)
        rw [e];show ps.length+0<=_;omega⟩
       refine ⟨rfl,⟨md.safe.pre,hcm,?_,g.cnt⟩,⟨md.safe,hcm,⟨ps,na,q6,fun z hz=>?_,hT'⟩,g.cnt,rfl,⟨rfl,rfl,rfl⟩⟩,hol,md.epoch,md.n⟩
       ·rcases hT' with ⟨e1,e2,e3,e4⟩ | ⟨m,e1,e2⟩
        ·exact .inl ⟨e1,e2,e3,by rw [e4] at bk;exact bk⟩
        ·exact .inr ⟨m,ps,e1,e2,bk⟩
       ·have hm:=na.may z hz;exact ⟨hm.1.1,hm.1.2,hm.2.1⟩
theorem h6s {d0 d:St} {t0 t t':T} {n:Nat} {os os':List Int} {x:Int} (h:h2n n t os t' os' x):Step d0 t0 d t->Step d0 t0 d t':=by
 induction h with
 | done _=>exact id
 | fail _ _ _=>exact fun s=>s.drop _
 | step _ _ _ ih=>exact fun s=>ih (s.drop _)
theorem k0p {d0 d d':St} {t0 t t':T} (hp:Pre d0 t0) {ps:List Pg} {os ns ns':List Int} {k:Nat} {x:Int} (h:Lays ps os d t k ns d' t' ns' x):Step d0 t0 d t->Step d0 t0 d' t':=by
 induction h with
 | done _=>exact id
 | fail _ hl _=>exact fun s=>s.lay hp hl
 | step _ hl _ ih=>exact fun s=>ih (s.lay hp hl)
theorem g6b {d0 d d':St} {t0 t t':T} (hp:Pre d0 t0) {p:Pg} {os ns:List Int} {ks:List Disk.Bs} {x:Int} (h:g2n d t p os d' t' ks ns x) (s:Step d0 t0 d t):Step d0 t0 d' t':=by
 obtain ⟨t1,os1,x1,hD,⟨-,rfl,rfl,-⟩ | ⟨-,hL,-⟩⟩:=h
 ·exact h6s hD s
 ·exact k0p hp hL (h6s hD s)
theorem h9e {d0 d d':St} {t0 t t':T} (hp:Pre d0 t0) {st:Stp} {p b:Pg} {x:Int} (h:PutR st p d t d' t' b x) (s:Step d0 t0 d t):Step d0 t0 d' t':=by
 rcases h with ⟨-,ks,ns,h,-⟩ | ⟨-,⟨rfl,rfl,-⟩ | ⟨q,-,ks,ns,h,-⟩⟩
 ·exact g6b hp h s
 ·exact s
 ·exact g6b hp h s
theorem h1v {d0 d d':St} {t0 t t':T} (hp:Pre d0 t0) {n N r dp r' dp' x:Int} {p:Pg} (h:CRel n N r dp p d t d' t' r' dp' x) (s:Step d0 t0 d t):Step d0 t0 d' t':=by
 rcases h with ⟨-,rfl,rfl,-⟩ | ⟨-,d1,t1,ks,ns,x1,hS,⟨-,-,rfl,rfl,-⟩ | ⟨-,-,-,rfl,rfl,-⟩ | ⟨-,-,n,x2,hl,-⟩⟩
 ·exact s.drop _
 ·exact g6b hp hS s
 ·exact g6b hp hS s
 ·exact (g6b hp hS s).lay hp hl
theorem h6r {d0:St} {t0:T} (hp:Pre d0 t0) {n N r dp:Int} {ss:List Stp} {p:Pg} {d d':St} {t t':T} {r' dp' x:Int} (h:g4w PutR (CRel n N r dp) r dp ss p d t d' t' r' dp' x):Step d0 t0 d t->Step d0 t0 d' t':=by
 induction h with
 | top h=>exact h1v hp h
 | err h _=>exact h9e hp h
 | same h _ _=>exact h9e hp h
 | up h _ _ ih=>exact fun s=>ih (h9e hp h s)
theorem h4h {d d':St} {t t':T} (hp:Pre d t) {P:List Stp->Stp->Prop} {Q:Int->Prop} {RC:List Stp->Stp->List (Disk.Bs×Disk.Bs)->St->T->Int->Int->Int->Prop} {f:List (Disk.Bs×Disk.Bs)->List (Disk.Bs×Disk.Bs)} {r dp c r' dp' c' x:Int}
 (hs:∀ l s np d' t' r' dp' x,RC l s np d' t' r' dp' x->Step d t d' t') (h:g6s P Q RC f d t r dp c d' t' r' dp' c' x):Step d t d' t':=by
 rcases h with ⟨l,s,-,-,-,rfl,rfl,-⟩ | ⟨l,s,-,-,hR,-⟩ | ⟨-,-,rfl,rfl,-⟩
 ·exact hp.refl
 ·exact hs _ _ _ _ _ _ _ _ hR
 ·exact hp.refl
theorem j1c {d d':St} {t t':T} (hp:Pre d t) {P:List Stp->Stp->Prop} {Q:Int->Prop} {RC:List Stp->Stp->List (Disk.Bs×Disk.Bs)->St->T->Int->Int->Int->Prop} {key:Disk.Bs} {r dp c r' dp' c' x:Int} {had:Bool}
 (hs:∀ l s np d' t' r' dp' x,RC l s np d' t' r' dp' x->Step d t d' t') (h:CutD P Q RC key d t r dp c d' t' r' dp' c' x had):Step d t d' t':=by
 rcases h with ⟨l,s,-,-,-,rfl,rfl,-⟩ | ⟨l,s,-,-,hR,-⟩ | ⟨-,-,rfl,rfl,-⟩
 ·exact hp.refl
 ·exact hs _ _ _ _ _ _ _ _ hR
 ·exact hp.refl
end Go.Proofs.YtglejnkoojpelaaGreat.Tree

import Derived.Test.YtbhfammnffecoaaGreatMT10
import Derived.Test.YtbhfammnffecoaaGreatMT6
import Derived.Test.YtbhfammnffecoaaGreatMT9
import Derived.Test.YtbhfammnffecoaaGreatMS4
set_option maxRecDepth 100000
set_option maxHeartbeats 32000000
namespace Go.Proofs.YtbhfammnffecoaaGreat.Tree
open Go.RowKit Gen
open Disk (St Dev Mod ptr)
open Page (Pg Lay less Enc IsDec Lt Rises KeyOk Fine)
open Store
open Lib (hid)
def TreeAt (d:St) (t:T) (r dp:Int) (es:Ents) (K:Nat):Prop :=
 (dp=0/\r=0/\es=[]/\Book t [] K)\/∃ (m:Nat) (ps:List Int),dp=((m+1:Nat):Int)/\IsT d (m+1) r (es,ps)/\Book t ps K
theorem one_of {α:Type} {l:List α} (h:l.length=1):∃ a,l=[a]:=by
 match l,h with
 | [a],_=>exact ⟨a,rfl⟩
theorem crown_good {d d':St} {t t':T} {M K:Nat} {p:Pg} {y:Held} {r r' dp' x:Int} (hp:Pre d t) (hc:Store.Calm d) (hv:VT d (M+1) p y) (hr:Ripe p) (hs:Sorted y.1) (hb:Book t (r :: y.2) K)
 (h:CRel r ((M+1:Nat):Int) r ((M+1:Nat):Int) p d t d' t' r' dp' x):(x=60/\avail t d.n<=2)\/(x=0/\TreeAt d' t' r' dp' y.1 K/\Went d t d' t' []):=by
 rcases h with ⟨h0,rfl,rfl,rfl,hx⟩ | ⟨h0,d1,t1,ks,ns,x1,hS,hx⟩
 ·obtain ⟨b1,b2,-⟩:=hb.drop (N:=d'.n);have st:=(Pre.refl hp).drop r;have W:Went d' t d' (dropT t r).1 []:=⟨st.pre hp,hc,rfl,st.part,fun _ _=>rfl⟩;rcases hx with ⟨-,rfl,rfl⟩ | ⟨hx,-⟩
  ·refine .inr ⟨b1,?_,W⟩;rcases hr.kind with hk | hk
   ·obtain ⟨e,ey⟩:=vt_leaf hv hk;have:M=0:=by omega
    subst this;refine .inl ⟨rfl,if_neg (by omega),?_,by rw [ey] at b2;exact b2⟩;rw [ey];have f:fillP p=p.pairs.length:=if_pos hk;exact List.length_eq_zero_iff.1 (show p.pairs.length=0 by omega)
   ·obtain ⟨q,e⟩:=vt_branch hv hk;have:M=q+1:=by omega
    subst this;obtain ⟨-,g1,L,g2,g3,g4,g5⟩:=hv;have f:fillP p=p.keys.length:=if_neg (by omega);obtain ⟨k,ek⟩:=one_of (l:=p.kids) (by omega);obtain ⟨z,ez⟩:=one_of (l:=L) (by omega);have e1:lowRoot p=k:=by unfold lowRoot;rw [if_pos hk,ek];rfl
    have e2:y=z:=by rw [g5,ez];simp
    refine .inr ⟨q,y.2,?_,?_,b2⟩
    ·show ((q+1+1:Nat):Int)-1=((q+1:Nat):Int);omega
    ·rw [e1,e2];exact (g3 0 k z (by rw [ek];rfl) (by rw [ez];rfl)).1
  ·exact absurd b1 hx
 ·rcases spread_good (os:=[r]) (rest:=[]) hp hc hv hr hs h0 (.inl rfl) (by simpa using hb) hS with ⟨h1,h2⟩ | ⟨rfl,L,e1,e2,e3,hT,hbt,hen,hkk,hsp,bk,av,wt⟩
  ·rcases hx with ⟨-,rfl,-⟩ | ⟨hx,-⟩ | ⟨hx,-⟩
   ·exact .inl ⟨h1,by omega⟩
   ·rw [h1] at hx;exact absurd hx (by decide)
   ·rw [h1] at hx;exact absurd hx (by decide)
  rcases hx with ⟨hx,-⟩ | ⟨-,rfl,rfl,rfl,rfl,rfl,rfl⟩ | ⟨-,hne,n,x2,hl,hx⟩
  ·exact absurd rfl hx
  ·obtain ⟨n,en⟩:=one_of (l:=ns) (by simpa using e2);obtain ⟨z,ez⟩:=one_of (l:=L) (by rw [e1,en];rfl);refine .inr ⟨rfl,.inr ⟨M,z.2,rfl,?_,?_⟩,wt⟩
   ·have g:=(hT 0 n z (by rw [en];rfl) (by rw [ez];rfl)).1;have:y.1=z.1:=by rw [<- hen,ez];simp
    rw [en,this];exact g
   ·rw [ez] at bk
    simpa using bk
  ·have hfull:=hsp hne;have hle:leastP p<=fillP p:=by
    have:leastP p<=mostP p:=by unfold leastP mostP;split <;> omega
    omega
   have l1:ks.length=1:=by
    have:=List.length_pos_iff.2 hne;omega
   have n1:¬ (2:Int)=1:=by decide
   have hv1:VT d1 (M+2) (branchOf ks ns) (L.flatMap (·.1),L.flatMap (·.2)):=⟨rfl,e2,L,e1,fun i n z hi hz=>⟨(hT i n z hi hz).1,(hT i n z hi hz).2 hle⟩,hbt,rfl⟩;have f1:fillP (branchOf ks ns)=ks.length:=if_neg n1;have f2:mostP (branchOf ks ns)=12:=if_neg n1;have hr1:Ripe (branchOf ks ns):=⟨.inr rfl,by rw [f1,f2];omega,fun x hx=>(by cases hx),hkk,fun n hn=>by
    have hn:n∈ns:=hn;obtain ⟨i,hi',rfl⟩:=List.mem_iff_getElem.1 hn;have g:=(hT i _ _ (List.getElem?_eq_getElem hi') (List.getElem?_eq_getElem (by omega))).1;exact bk.place_ wt.pre.pk wt.pre.nle (List.mem_append_left _ (List.mem_flatMap.2 ⟨_,List.getElem_mem _,isT_mem g⟩))⟩
   have hs1:Sorted (L.flatMap (·.1),L.flatMap (·.2)).1:=by
    show Sorted (L.flatMap (·.1));rw [hen];exact hs
   have F:=ripe_fine hr1 hv1 hs1 (by rw [f1];omega) (by rw [f1,f2];omega);rcases lay_one (rest:=[]) wt.pre wt.calm hv1 hr1 F bk (.inr ⟨rfl,rfl⟩) hl with ⟨h1,h2⟩ | ⟨rfl,iT,-,b3,av3,w3⟩
   ·rcases hx with ⟨-,rfl,-⟩ | ⟨hx,-⟩
    ·rw [wt.sz] at h2;exact .inl ⟨h1,by omega⟩
    ·rw [h1] at hx;exact absurd hx (by decide)
   ·rcases hx with ⟨hx,-⟩ | ⟨-,rfl,rfl,rfl⟩
    ·exact absurd rfl hx
    ·refine .inr ⟨rfl,.inr ⟨M+1,r' :: L.flatMap (·.2),?_,?_,?_⟩,wt.trans w3 (fun _ h=>by cases h) (fun _ h=>by cases h)⟩
     ·show ((M+1:Nat):Int)+1=((M+1+1:Nat):Int);omega
     ·rw [<- hen];exact iT
     ·simpa using b3
theorem climb_good {d0:St} (hc0:Store.Calm d0) {key:Disk.Bs} {r:Int} {M m:Nat} {a:Int} {ss:List Stp} {A B:Ents} {Q:List Int} (hx:Ctx d0 key r (M+1) m a ss A B Q) :
 ∀ {d:St} {t:T} {p:Pg} {y:Held} {d':St} {t':T} {r' dp' x:Int} {K:Nat},Pre d t->Store.Calm d->d.n=d0.n->(∀ k∈Q,d.get k=d0.get k)->VT d m p y->Ripe p->Sorted y.1->(∀ e∈y.1,Fit ss key e.1)->Book t (a :: (y.2++Q)) K ->
  ClimbD PutR (CRel r ((M+1:Nat):Int) r ((M+1:Nat):Int)) r ((M+1:Nat):Int) ss p d t d' t' r' dp' x ->
  (x=60/\avail t d.n<=2*ss.length+2)\/(x=0/\TreeAt d' t' r' dp' (A++y.1++B) K/\Went d t d' t' []):=by
 induction hx with
 | top =>
  intro d t p y d' t' r' dp' x K hp hc hn hg hv hr hs hf hb h;cases h with
  | top h =>
   rcases crown_good hp hc hv hr hs (by simpa using hb) h with ⟨h1,h2⟩ | ⟨h1,h2,h3⟩
   ·exact .inl ⟨h1,by simpa using h2⟩
   ·exact .inr ⟨h1,by simpa using h2,h3⟩
 | @step m s ss A B Q n L hpg hl hk hbt hkid hnn hup hfat hfit ih =>
  intro d t p y d' t' r' dp' x K hp hc hn hg hv hr hs hf hb h;have ga:d.get s.at_=d0.get s.at_:=hg _ (List.mem_cons_self ..);have hpg':=hpg.keep hc0 hc hn ga;obtain ⟨j,ej⟩:∃ j,sideOf s.p.keys key=j:=⟨_,rfl⟩;have hfy:∀ e∈y.1,sideOf s.p.keys e.1=j:=fun e he=>by rw [<- ej];exact hf e he s (List.mem_cons_self ..)
  rw [ej] at hkid hnn hg hb ⊢;have hk':∀ (i:Nat) (n:Int) (z:Held),i≠j->s.p.kids[i]?=some n->L[i]?=some z->IsT d (m+1) n z/\Stout d n:=fun i n' z hij h1 h2=>by
   have g:∀ k∈z.2,d.get k=d0.get k:=fun k hk'=>by
    refine hg k (List.mem_cons_of_mem _ (List.mem_append_left _ (List.mem_flatMap.2 ⟨z,?_,hk'⟩)));rw [List.mem_append];rcases Nat.lt_or_gt_of_ne hij with g | g
    ·left
     refine List.mem_of_getElem? (i:=i) ?_;rw [List.getElem?_take,if_pos g];exact h2
    ·right
     refine List.mem_of_getElem? (i:=i-(j+1)) ?_;rw [List.getElem?_drop,show j+1+(i-(j+1))=i by omega];exact h2
   obtain ⟨g1,g2⟩:=hk i n' z h1 h2;exact ⟨g1.keep hc0 hc hn g,g2.keep hc0 hc hn (g _ (isT_mem g1))⟩
  have put:∀ {d1:St} {t1:T} {b:Pg} {x:Int},PutR s p d t d1 t1 b x->(x=60/\avail t d.n<=1)\/(x=0/\∃ z,VT d1 (m+2) b z/\Ripe b/\z.1=(L.take j).flatMap (·.1)++y.1++(L.drop (j+1)).flatMap (·.1)/\Book t1 (s.at_ :: (z.2++Q)) K/\avail t d.n<=avail t1 d.n+2/\Went d t d1 t1 (s.at_ :: Q)):=fun {d1 t1 b x} h=>by
   refine (put_good (rest:=s.at_ :: Q) hp hc hpg' hl hk' hbt hkid hnn hv hr hs hfy (hb.perm (List.Perm.cons _ (List.Perm.append_left _ List.perm_middle.symm))) h).imp id ?_;rintro ⟨rfl,z,h1,h2,h3,h4,h5,h6⟩;exact ⟨rfl,z,h1,h2,h3,h4.perm List.perm_middle,h5,h6⟩
  have fits:∀ {z:Held},z.1=(L.take j).flatMap (·.1)++y.1++(L.drop (j+1)).flatMap (·.1)->∀ e∈z.1,Fit ss key e.1:=fun {z} ez e he=>by
   rw [ez] at he;simp only [List.mem_append] at he;rcases he with (he | he) | he
   ·obtain ⟨w,hw,hew⟩:=List.mem_flatMap.1 he;exact hfit e (List.mem_flatMap.2 ⟨w,List.mem_of_mem_take hw,hew⟩)
   ·exact fun s' hs'=>hf e he s' (List.mem_cons_of_mem _ hs')
   ·obtain ⟨w,hw,hew⟩:=List.mem_flatMap.1 he;exact hfit e (List.mem_flatMap.2 ⟨w,List.mem_of_mem_drop hw,hew⟩)
  have ents:∀ {z:Held},z.1=(L.take j).flatMap (·.1)++y.1++(L.drop (j+1)).flatMap (·.1)->A++z.1++B=A++(L.take j).flatMap (·.1)++y.1++((L.drop (j+1)).flatMap (·.1)++B):=fun {z} ez=>by
   rw [ez];simp
  cases h with
  | err hP hx =>
   rcases put hP with ⟨h1,h2⟩ | ⟨h1,-⟩
   ·exact .inl ⟨h1,by omega⟩
   ·exact absurd h1 hx
  | @same _ _ _ _ _ _ _ b hP h1 h2 =>
   rcases put hP with ⟨h1,-⟩ | ⟨-,z,g1,g2,g3,g4,g5,g6⟩
   ·exact absurd h1 (by decide)
   have hit:IsT d' (m+2) s.at_ (z.1,s.at_ :: z.2):=isT_iff.2 ⟨s.p,z,by rw [if_neg (by omega)];exact hpg'.keep hc g6.calm g6.sz (g6.get _ (List.mem_cons_self ..)),g1.same hpg.2.2 h1.symm h2.symm,rfl⟩;obtain ⟨ps,i1,i2⟩:=plug hc0 g6.calm (g6.sz.trans hn) hup hit (fun hne=>((hfat hne).keep hc0 hc hn ga).keep hc g6.calm g6.sz (g6.get _ (List.mem_cons_self ..))) (fits g3) (fun k hk=>(g6.get k (List.mem_cons_of_mem _ hk)).trans (hg k (by simp [hk])))
   refine .inr ⟨rfl,.inr ⟨M,ps,rfl,?_,g4.perm i2.symm⟩,⟨g6.pre,g6.calm,g6.sz,g6.part,fun _ h=>by cases h⟩⟩;rw [<- ents g3];exact i1
  | @up _ _ _ _ _ d1 t1 b _ _ _ _ _ hP hne hU =>
   rcases put hP with ⟨h1,-⟩ | ⟨-,z,g1,g2,g3,g4,g5,g6⟩
   ·exact absurd h1 (by decide)
   rcases ih g6.pre g6.calm (g6.sz.trans hn) (fun k hk=>(g6.get k (List.mem_cons_of_mem _ hk)).trans (hg k (by simp [hk]))) g1 g2 (vt_sorted g1) (fits g3) g4 hU with ⟨h1,h2⟩ | ⟨h1,h2,h3⟩
   ·rw [g6.sz] at h2;refine .inl ⟨h1,?_⟩;rw [List.length_cons];omega
   ·refine .inr ⟨h1,?_,g6.trans h3 (fun _ h=>by cases h) (fun _ h=>by cases h)⟩;rw [<- ents g3];exact h2
theorem ctx_around {d:St} {key:Disk.Bs} {r:Int} {M m:Nat} {a:Int} {ss:List Stp} {A B:Ents} {Q:List Int} (h:Ctx d key r M m a ss A B Q):Around key A B:=by
 induction h with
 | top=>exact ⟨fun _ h=>(by cases h),fun _ h=>by cases h⟩
 | @step m s ss A B Q n L hp hl hk hb hkid hnn hup hfat hfit ih =>
  have h0:=pgAt_kids hp;have hr:=((Page.fine2 hp.2.2).1 (fine_of hp)).1.rises;have hle:=side_le s.p.keys key;obtain ⟨j,ej⟩:∃ j,sideOf s.p.keys key=j:=⟨_,rfl⟩;rw [ej] at hle ⊢;have hb':=between_iff.1 hb;refine ⟨fun e he=>?_,fun e he=>?_⟩
  ·rcases List.mem_append.1 he with he | he
   ·exact ih.lo e he
   ·obtain ⟨z,hz,hez⟩:=List.mem_flatMap.1 he;obtain ⟨i,hi⟩:=List.mem_iff_getElem?.1 hz;rw [List.getElem?_take] at hi
    split at hi
    ·rename_i hij
     have e1:=List.getElem?_eq_getElem (l:=s.p.keys) (i:=i) (by omega);exact lt_le ((hb' i _ e1).1 z hi e hez) (side_lo hr ej hij e1)
    ·cases hi
  ·rcases List.mem_append.1 he with he | he
   ·obtain ⟨z,hz,hez⟩:=List.mem_flatMap.1 he;obtain ⟨i,hi⟩:=List.mem_iff_getElem?.1 hz;rw [List.getElem?_drop] at hi;have hlt:=(List.getElem?_eq_some_iff.1 hi).1;have e1:=List.getElem?_eq_getElem (l:=s.p.keys) (i:=j+i) (by omega);exact lt_le (side_hi hr ej (by omega) e1) ((hb' (j+i) _ e1).2 z (by rw [show j+i+1=j+1+i by omega];exact hi) e hez)
   ·exact ih.hi e he
theorem way_ctx {d:St} {key:Disk.Bs} {r:Int} {M:Nat} {x:Held} {l:List Stp} {s:Stp} (hx:IsT d (M+1) r x) (hw:WayP d key r (M+1) l s) :
 ∃ A B Q,Ctx d key r (M+1) 1 s.at_ l.reverse A B Q/\x.1=A++s.p.pairs++B/\x.2.Perm (s.at_ :: Q)/\(∀ e∈s.p.pairs,Fit l key e.1)/\Around key A B:=by
 obtain ⟨hd,hl,hp,-⟩:=hw;obtain ⟨y,A,B,Q,hy,hc,h1,h2,h3,-⟩:=down_ctx hd hx (by omega);rw [show M-l.length+1=1 by omega] at hy hc;obtain ⟨p,hpp,rfl⟩:=hy;obtain rfl:=pgAt_fun hpp hp;exact ⟨A,B,Q,hc,h1,h2,h3,ctx_around hc⟩
theorem up_good {d d':St} {t t':T} {key:Disk.Bs} {r r' dp' x:Int} {m K:Nat} {es:Ents} {ps:List Int} {l:List Stp} {s:Stp} {np:List (Disk.Bs×Disk.Bs)} (hp:Pre d t) (hc:Store.Calm d) (hT:IsT d (m+1) r (es,ps)) (hb:Book t ps K)
 (hw:WayP d key r (m+1) l s) (h1:Ripe (leafOf np)) (h2:Sorted np) (h3:∀ e∈np,e∈s.p.pairs\/e.1=key)
 (h:ClimbD PutR (CRel r ((m+1:Nat):Int) r ((m+1:Nat):Int)) r ((m+1:Nat):Int) l.reverse (leafOf np) d t d' t' r' dp' x) :
 ∃ A B,es=A++s.p.pairs++B/\Around key A B/\((x=60/\avail t d.n<=2*m+2)\/(x=0/\TreeAt d' t' r' dp' (A++np++B) K/\Went d t d' t' [])):=by
 have hl:=hw.2.1;obtain ⟨A,B,Q,hx,e1,e2,e3,ar⟩:=way_ctx hT hw;refine ⟨A,B,e1,ar,?_⟩;have:=climb_good hc hx hp hc rfl (fun _ _=>rfl) (y:=(np,[])) ⟨rfl,rfl⟩ h1 h2 (fun e he s' hs'=>?_) (hb.perm e2) h
 ·rw [List.length_reverse,show l.length=m by omega] at this;exact this
 ·rcases h3 e he with g | g
  ·exact e3 e g s' (List.mem_reverse.1 hs')
  ·rw [g]
theorem leaf_new {d:St} {a:Int} {p:Pg} (h:PgAt d a 1 p) (key val:Disk.Bs) (hk:KeyOk key) (hv:val.length<=100) :
 (Ripe (leafOf (setP p.pairs key val))/\Sorted (setP p.pairs key val)/\∀ e∈setP p.pairs key val,e∈p.pairs\/e.1=key)/\(Ripe (leafOf (cutP p.pairs key))/\Sorted (cutP p.pairs key)/\∀ e∈cutP p.pairs key,e∈p.pairs\/e.1=key):=by
 obtain ⟨q1,-,-,q4⟩:=laid_parts h (.inl rfl);have hs:Sorted p.pairs:=rises_pw.1 ((Page.fine1 h.2.2).1 (fine_of h)).1.rises;have hl:=((Page.fine1 h.2.2).1 (fine_of h)).1.len.2;have f1:∀ l:List (Disk.Bs×Disk.Bs),fillP (leafOf l)=l.length:=fun l=>if_pos rfl
 have f2:∀ l:List (Disk.Bs×Disk.Bs),mostP (leafOf l)=6:=fun l=>if_pos rfl
 refine ⟨⟨⟨.inl rfl,?_,fun x hx=>?_,fun x hx=>(by cases hx),fun x hx=>(by cases hx)⟩,setP_sorted hs _ _,fun e he=>(setP_mem he).imp id (fun e=>by rw [e])⟩,⟨.inl rfl,?_,fun x hx=>q1 x (cutP_mem hx),fun x hx=>(by cases hx),fun x hx=>(by cases hx)⟩,cutP_sorted hs _,fun e he=>.inl (cutP_mem he)⟩
 ·rw [f1,f2];have:=set_len p.pairs key val;omega
 ·rcases setP_mem hx with g | rfl
  ·exact q1 x g
  ·exact ⟨hk,hv⟩
 ·rw [f1,f2];have:=cut_len p.pairs key;omega
structure Good (d:St) (t:T) (r dp c:Int) (es:Ents) (K:Nat):Prop where
 pre:Pre d t
 calm:Store.Calm d
 tree:TreeAt d t r dp es K
 cnt:c=(es.length:Int)
theorem Good.sorted {d:St} {t:T} {r dp c:Int} {es:Ents} {K:Nat} (g:Good d t r dp c es K):Sorted es:=by
 rcases g.tree with ⟨-,-,rfl,-⟩ | ⟨m,ps,-,h,-⟩
 ·exact List.Pairwise.nil
 ·exact isT_sorted h
theorem len_ctx (A l B:Ents):(((A++l++B).length:Nat):Int)=(A.length:Int)+(l.length:Int)+(B.length:Int):=by
 simp only [List.length_append];omega
theorem set_good {d d':St} {t t':T} {r c r' dp' c' x:Int} {m K:Nat} {es:Ents} (g:Good d t r ((m+1:Nat):Int) c es K) (key val:Disk.Bs) (hk:KeyOk key) (hv:val.length<=100)
 (h:ChangeD (WayP d key r (m+1)) (WayQ d key r (m+1)) (fun l _ np=>ClimbD PutR (CRel r ((m+1:Nat):Int) r ((m+1:Nat):Int)) r ((m+1:Nat):Int) l.reverse (leafOf np) d t) (fun l=>setP l key val) d t r ((m+1:Nat):Int) c d' t' r' dp' c' x) :
 (x=60/\avail t d.n<=2*m+2)\/(x=0/\Good d' t' r' dp' c' (setP es key val) K/\Went d t d' t' []):=by
 rcases g.tree with ⟨h0,-⟩ | ⟨m',ps,h0,hT,hb⟩
 ·omega
 obtain rfl:m'=m:=by omega
 rcases h with ⟨l,s,hw,he,rfl,rfl,rfl,rfl,rfl,rfl⟩ | ⟨l,s,hw,he,hU,rfl⟩ | ⟨hQ,-⟩
 ·obtain ⟨A,B,Q,-,e1,-,-,ar⟩:=way_ctx hT hw;have e1:es=A++s.p.pairs++B:=e1;have he:setP s.p.pairs key val=s.p.pairs:=he;have:setP es key val=es:=by rw [e1,setP_ctx ar,he]
  rw [this];exact .inr ⟨rfl,g,⟨g.pre,g.calm,rfl,Part.refl _,fun _ _=>rfl⟩⟩
 ·obtain ⟨l1,l2,l3⟩:=(leaf_new hw.2.2.1 key val hk hv).1;obtain ⟨A,B,e1,ar,hx⟩:=up_good g.pre g.calm hT hb hw l1 l2 l3 hU;rcases hx with ⟨rfl,h2⟩ | ⟨rfl,h2,h3⟩
  ·exact .inl ⟨rfl,h2⟩
  ·rw [e1,setP_ctx ar];refine .inr ⟨rfl,⟨h3.pre,h3.calm,h2,?_⟩,h3⟩;rw [if_pos rfl,g.cnt,e1,len_ctx,len_ctx];show _+(((setP s.p.pairs key val).length:Int) - _)=_;omega
 ·exact absurd hQ (way_isT_ok hT)
theorem cut_good {d d':St} {t t':T} {r c r' dp' c' x:Int} {m K:Nat} {es:Ents} {had:Bool} (g:Good d t r ((m+1:Nat):Int) c es K) (key:Disk.Bs)
 (h:CutD (WayP d key r (m+1)) (WayQ d key r (m+1)) (fun l _ np=>ClimbD PutR (CRel r ((m+1:Nat):Int) r ((m+1:Nat):Int)) r ((m+1:Nat):Int) l.reverse (leafOf np) d t) key d t r ((m+1:Nat):Int) c d' t' r' dp' c' x had) :
 had=hasOf (keysOf es) key/\((x=60/\avail t d.n<=2*m+2)\/(x=0/\Good d' t' r' dp' c' (cutP es key) K/\Went d t d' t' [])):=by
 rcases g.tree with ⟨h0,-⟩ | ⟨m',ps,h0,hT,hb⟩
 ·omega
 obtain rfl:m'=m:=by omega
 rcases h with ⟨l,s,hw,he,rfl,rfl,rfl,rfl,rfl,rfl,rfl⟩ | ⟨l,s,hw,he,hU,rfl,rfl⟩ | ⟨hQ,-⟩
 ·obtain ⟨A,B,Q,-,e1,-,-,ar⟩:=way_ctx hT hw;have e1:es=A++s.p.pairs++B:=e1;have:cutP es key=es:=by rw [e1,cutP_ctx ar,he]
  rw [this];refine ⟨by rw [e1,hasOf_ctx ar],.inr ⟨rfl,g,⟨g.pre,g.calm,rfl,Part.refl _,fun _ _=>rfl⟩⟩⟩
 ·obtain ⟨l1,l2,l3⟩:=(leaf_new hw.2.2.1 key [] ((laid_parts hw.2.2.1 (.inl rfl)).1 |> fun q=>by
   by_cases hne:hasOf (keysOf s.p.pairs) key=true
   ·obtain ⟨h1,h2⟩:=(has_iff _ _).1 hne;have hm:key∈keysOf s.p.pairs:=h2 ▸ List.getElem_mem h1;obtain ⟨e,hme,rfl⟩:=List.mem_map.1 hm;exact (q e hme).1
   ·exfalso
    apply he;unfold cutP nextOf;rw [if_neg hne,List.take_append_drop]) (Nat.zero_le _)).2
  obtain ⟨A,B,e1,ar,hx⟩:=up_good g.pre g.calm hT hb hw l1 l2 l3 hU;refine ⟨by rw [e1,hasOf_ctx ar],?_⟩;rcases hx with ⟨rfl,h2⟩ | ⟨rfl,h2,h3⟩
  ·exact .inl ⟨rfl,h2⟩
  ·rw [e1,cutP_ctx ar];refine .inr ⟨rfl,⟨h3.pre,h3.calm,h2,?_⟩,h3⟩;rw [if_pos rfl,g.cnt,e1,len_ctx,len_ctx];omega
 ·exact absurd hQ (way_isT_ok hT)
theorem first_good {d d':St} {t t':T} {r c r' dp' c' x:Int} {K:Nat} {es:Ents} (g:Good d t r 0 c es K) (key val:Disk.Bs) (hk:KeyOk key) (hv:val.length<=100)
 (h:ChangeD NilP (fun _=>False) (fun _ s np=>CRel s.at_ 1 r 0 (leafOf np) d t) (fun l=>setP l key val) d t r 0 c d' t' r' dp' c' x) :
 (x=60/\avail t d.n<=2)\/(x=0/\Good d' t' r' dp' c' (setP es key val) K/\Went d t d' t' []):=by
 rcases g.tree with ⟨-,rfl,rfl,hb⟩ | ⟨m',ps,h0,-⟩
 rotate_left
 ·omega
 have e0:setP ([]:Ents) key val=[(key,val)]:=rfl;rcases h with ⟨l,s,⟨rfl,rfl⟩,he,-⟩ | ⟨l,s,⟨rfl,rfl⟩,he,hU,rfl⟩ | ⟨hQ,-⟩
 ·have he:setP ([]:Ents) key val=[]:=he;rw [e0] at he;cases he
 ·have hU:CRel 0 1 0 0 (leafOf [(key,val)]) d t d' t' r' dp' x:=hU;have f1:fillP (leafOf [(key,val)])=1:=if_pos rfl;have f2:mostP (leafOf [(key,val)])=6:=if_pos rfl;have hr:Ripe (leafOf [(key,val)]):=⟨.inl rfl,by rw [f1,f2];omega,fun x hx=>by
   have hx:x∈[(key,val)]:=hx;rw [List.mem_singleton] at hx;rw [hx];exact ⟨hk,hv⟩,fun x hx=>(by cases hx),fun x hx=>(by cases hx)⟩
  have hvt:VT d 1 (leafOf [(key,val)]) ([(key,val)],[]):=⟨rfl,rfl⟩;have F:=ripe_fine hr hvt (sorted_one _) (by rw [f1];omega) (by rw [f1,f2];omega);rcases hU with ⟨h0,-⟩ | ⟨-,d1,t1,ks,ns,x1,hS,hx⟩
  ·rw [f1] at h0;omega
  obtain ⟨t2,os1,x2,hD,hR⟩:=hS;have eP:partsP (leafOf [(key,val)])=[leafOf [(key,val)]]:=if_neg (by rw [f1,f2];omega);have eK:partsK (leafOf [(key,val)])=[]:=if_neg (by rw [f1,f2];omega);rw [eP] at hD hR;have hh:t2=t/\os1=[0]/\x2=0:=by
   cases hD with
   | done _=>exact ⟨rfl,rfl,rfl⟩
   | fail h _ _=>simp at h
   | step h _ _=>simp at h
  obtain ⟨rfl,rfl,rfl⟩:=hh;rcases hR with ⟨h,-⟩ | ⟨-,hL,hks⟩
  ·exact absurd rfl h
  have go:∀ {d1:St} {t1:T} {n e:Int},LayR d t2 0 (leafOf [(key,val)]) d1 t1 n e->(e=60/\avail t2 d.n=0)\/(e=0/\IsT d1 1 n ([(key,val)],[n])/\Book t1 [n] K/\Went d t2 d1 t1 []):=fun hl=>by
   rcases lay_one (rest:=[]) (qs:=[]) g.pre g.calm hvt hr F hb (.inr ⟨rfl,rfl⟩) hl with h | ⟨h1,h2,-,h3,-,h4⟩
   ·exact .inl h
   ·exact .inr ⟨h1,h2,h3,h4⟩
  cases hL with
  | done h=>simp at h
  | fail hb' hl hne =>
   simp only [List.getElem?_cons_zero,Option.some.injEq] at hb';subst hb';rcases go hl with ⟨h1,h2⟩ | ⟨h1,-⟩
   ·rcases hx with ⟨-,rfl,-⟩ | ⟨h,-⟩ | ⟨h,-⟩
    ·exact .inl ⟨h1,by omega⟩
    ·exact absurd h hne
    ·exact absurd h hne
   ·exact absurd h1 hne
  | step hb' hl hr' =>
   simp only [List.getElem?_cons_zero,Option.some.injEq] at hb';subst hb';rcases go hl with ⟨h1,-⟩ | ⟨-,h2,h3,h4⟩
   ·exact absurd h1 (by decide)
   cases hr' with
   | fail hb _ _=>simp at hb
   | step hb _ _=>simp at hb
   | done _ =>
    rw [if_pos rfl,eK] at hks;rcases hx with ⟨h,-⟩ | ⟨-,-,rfl,rfl,rfl,rfl,rfl⟩ | ⟨-,h,-⟩
    ·exact absurd rfl h
    ·refine .inr ⟨rfl,⟨h4.pre,h4.calm,.inr ⟨0,_,rfl,h2,h3⟩,?_⟩,h4⟩;have:=g.cnt;rw [if_pos rfl];show c+((1:Int)-0)=1;have e:((([]:Ents).length:Nat):Int)=0:=rfl;omega
    ·exact absurd hks h
 ·exact hQ.elim
theorem none_good {d d':St} {t t':T} {r c r' dp' c' x:Int} {K:Nat} {es:Ents} {had:Bool} (g:Good d t r 0 c es K) (key:Disk.Bs)
 (h:CutD NilP (fun _=>False) (fun _ s np=>CRel s.at_ 1 r 0 (leafOf np) d t) key d t r 0 c d' t' r' dp' c' x had) :
 had=hasOf (keysOf es) key/\x=0/\Good d' t' r' dp' c' (cutP es key) K/\Went d t d' t' []:=by
 rcases g.tree with ⟨-,rfl,rfl,hb⟩ | ⟨m',ps,h0,-⟩
 rotate_left
 ·omega
 have e0:cutP ([]:Ents) key=[]:=rfl;rcases h with ⟨l,s,⟨rfl,rfl⟩,he,rfl,rfl,rfl,rfl,rfl,rfl,rfl⟩ | ⟨l,s,⟨rfl,rfl⟩,he,-⟩ | ⟨hQ,-⟩
 ·rw [e0];exact ⟨rfl,rfl,g,⟨g.pre,g.calm,rfl,Part.refl _,fun _ _=>rfl⟩⟩
 ·exact absurd rfl he
 ·exact hQ.elim
theorem get_good {d:St} {t:T} {r c:Int} {m K:Nat} {es:Ents} (g:Good d t r ((m+1:Nat):Int) c es K) (key:Disk.Bs) {l:List Stp} {s:Stp} (hw:WayP d key r (m+1) l s):valOf s.p.pairs key=valOf es key/\hasOf (keysOf s.p.pairs) key=hasOf (keysOf es) key:=by
 rcases g.tree with ⟨h0,-⟩ | ⟨m',ps,h0,hT,hb⟩
 ·omega
 obtain rfl:m'=m:=by omega
 obtain ⟨A,B,Q,-,e1,-,-,ar⟩:=way_ctx hT hw;have e1:es=A++s.p.pairs++B:=e1;rw [e1,valOf_ctx ar,hasOf_ctx ar];exact ⟨rfl,rfl⟩
theorem sum_pages:∀ {L:List Held},(∀ z∈L,2*z.2.length+1<=z.1.length)->2*(L.flatMap (·.2)).length+L.length<=(L.flatMap (·.1)).length
 | [],_=>Nat.le_refl _
 | z :: L,h=>by
  have h1:=h z (List.mem_cons_self ..);have h2:=sum_pages (L:=L) (fun z hz=>h z (List.mem_cons_of_mem _ hz));simp only [List.flatMap_cons,List.length_append,List.length_cons];omega
theorem sum_ents {N:Nat}:∀ {L:List Held},(∀ z∈L,N<=z.1.length)->L.length*N<=(L.flatMap (·.1)).length
 | [],_=>by simp
 | z :: L,h=>by
  have h1:=h z (List.mem_cons_self ..);have h2:=sum_ents (L:=L) (fun z hz=>h z (List.mem_cons_of_mem _ hz));simp only [List.flatMap_cons,List.length_append,List.length_cons];rw [Nat.add_mul];omega
theorem stout_size {d:St}:∀ {m:Nat} {a:Int} {x:Held},IsT d m a x->Stout d a->2*x.2.length+1<=x.1.length/\2 ^ m<=x.1.length
 | 0,_,_,h,_=>h.elim
 | 1,a,x,⟨p,hp,e⟩,⟨k,q,hq,hf⟩=>by
  obtain rfl:=pgAt_fun hp hq;unfold leastP fillP at hf;rw [if_pos hp.2.2,if_pos hp.2.2] at hf;rw [e];exact ⟨by simpa using hf,by simp only [Nat.pow_one];omega⟩
 | m+2,a,x,⟨p,L,hp,hl,hk,hb,e⟩,⟨k,q,hq,hf⟩=>by
  obtain rfl:=pgAt_fun hp hq;have h0:=pgAt_kids hp;unfold leastP fillP at hf;rw [if_neg (by rw [hp.2.2];decide),if_neg (by rw [hp.2.2];decide)] at hf;have key:∀ z∈L,2*z.2.length+1<=z.1.length/\2 ^ (m+1)<=z.1.length:=fun z hz=>by
   obtain ⟨i,hi,rfl⟩:=List.mem_iff_getElem.1 hz;have g:=hk i _ _ (List.getElem?_eq_getElem (by omega)) (List.getElem?_eq_getElem hi);exact stout_size g.1 g.2
  have s1:=sum_pages (fun z hz=>(key z hz).1);have s2:=sum_ents (fun z hz=>(key z hz).2);have s3:2*2 ^ (m+1)<=L.length*2 ^ (m+1):=Nat.mul_le_mul_right _ (by omega);rw [e];refine ⟨?_,?_⟩
  ·simp only [List.length_cons];omega
  ·rw [Nat.pow_succ 2 (m+1)];show _<=(L.flatMap (·.1)).length;omega
theorem root_size {d:St}:∀ {m:Nat} {a:Int} {x:Held},IsT d (m+1) a x->2*x.2.length<=x.1.length+2/\2 ^ m<=x.1.length
 | 0,a,x,⟨p,hp,e⟩=>by
  have:=((Page.fine1 hp.2.2).1 (fine_of hp)).1.len.1;rw [e];exact ⟨by simp,by simpa using this⟩
 | m+1,a,x,⟨p,L,hp,hl,hk,hb,e⟩=>by
  have h0:=pgAt_kids hp;have h1:=((Page.fine2 hp.2.2).1 (fine_of hp)).1.len.1;have key:∀ z∈L,2*z.2.length+1<=z.1.length/\2 ^ (m+1)<=z.1.length:=fun z hz=>by
   obtain ⟨i,hi,rfl⟩:=List.mem_iff_getElem.1 hz;have g:=hk i _ _ (List.getElem?_eq_getElem (by omega)) (List.getElem?_eq_getElem hi);exact stout_size g.1 g.2
  have s1:=sum_pages (fun z hz=>(key z hz).1);have s2:=sum_ents (fun z hz=>(key z hz).2);have s3:1*2 ^ (m+1)<=L.length*2 ^ (m+1):=Nat.mul_le_mul_right _ (by omega);rw [e];refine ⟨?_,?_⟩
  ·simp only [List.length_cons];omega
  ·show _<=(L.flatMap (·.1)).length;omega
theorem depth_few {m n:Nat} (h:2 ^ m<=n) (hn:n<512):m<9:=by
 rcases Nat.lt_or_ge m 9 with g | g
 ·exact g
 ·have:=Nat.pow_le_pow_right (show 0<2 by decide) g;omega
theorem book_avail {t:T} {ps:List Int} {K:Nat} {N:Int} (h:Book t ps K) (hk:Pool.PoolOk t.pool N):((avail t N+ps.length+t.own.length+t.pool.limbo.length+2:Nat):Int)=N:=by
 have h1:=h.acct.cnt;have h2:=hk.top;unfold avail;omega
theorem Good.room {d:St} {t:T} {r dp c:Int} {es:Ents} {K:Nat} (g:Good d t r dp c es K) (he:es.length<512):(dp=0\/∃ m:Nat,dp=((m+1:Nat):Int)/\m<9)/\d.n<=avail t d.n+(es.length+2) / 2+t.own.length+K+2:=by
 rcases g.tree with ⟨rfl,-,rfl,hb⟩ | ⟨m,ps,rfl,hT,hb⟩
 ·have:=book_avail hb g.pre.pk;have:=hb.cold;refine ⟨.inl rfl,?_⟩;simp only [List.length_nil] at *;omega
 ·have:=book_avail hb g.pre.pk;have:=hb.cold;obtain ⟨h1,h2⟩:=root_size hT;have h1:2*ps.length<=es.length+2:=h1;exact ⟨.inr ⟨m,rfl,depth_few h2 he⟩,by omega⟩
open Page (Pg Lay less Enc IsDec Lt Rises KeyOk Fine FreeOk SuperOk)
open Pool (Po takeP giveP backP PoolOk chunks layAll May Rise)
theorem chunk_ok:∀ {l:List Int},Rise l->(∀ x∈l,Page.Place x)->∀ c∈chunks l,c.length<=200/\Rise c/\∀ x∈c,Page.Place x:=by
 intro l;obtain ⟨n,hn⟩:∃ n,l.length=n:=⟨_,rfl⟩
 induction n using Nat.strongRecOn generalizing l with
 | ind n ih =>
  intro hr hp c hc
  by_cases h:l.length=0
  ·rw [List.eq_nil_of_length_eq_zero h] at hc;cases hc
  ·rw [Pool.chunks_cons l h] at hc;rcases List.mem_cons.1 hc with rfl | hc
   ·exact ⟨by rw [List.length_take];omega,List.Pairwise.sublist (List.take_sublist _ _) hr,fun x hx=>hp x (List.mem_of_mem_take hx)⟩
   ·exact ih (l.drop 200).length (by rw [List.length_drop];omega) rfl (List.Pairwise.sublist (List.drop_sublist _ _) hr) (fun x hx=>hp x (List.mem_of_mem_drop hx)) c hc
theorem list_fine {own:List Int} {l:List Int} (ho:∀ x∈own,Page.Place x) (hr:Rise l) (hp:∀ x∈l,Page.Place x) (k:Nat):Fine (listP own (chunks l) k):=by
 have hc:(chunks l).getD k []=[]\/(chunks l).getD k []∈chunks l:=by
  rcases Nat.lt_or_ge k (chunks l).length with h | h
  ·right;rw [getD_at h];exact List.getElem_mem h
  ·left;rw [List.getD_eq_getElem?_getD,List.getElem?_eq_none h];rfl
 have hc':((chunks l).getD k []).length<=200/\Rise ((chunks l).getD k [])/\∀ x∈(chunks l).getD k [],Page.Place x:=by
  rcases hc with e | e
  ·rw [e];exact ⟨Nat.zero_le _,List.Pairwise.nil,fun x hx=>by cases hx⟩
  ·exact chunk_ok hr hp _ e
 refine (Page.fine3 rfl).2 ⟨⟨hc'.1,hc'.2.2,(Pool.rise_iff _).1 hc'.2.1,?_⟩,rfl,rfl,rfl,⟨rfl,rfl,rfl,rfl,rfl⟩⟩;show own.getD (k+1) 0=0\/Page.Place (own.getD (k+1) 0);rcases Nat.lt_or_ge (k+1) own.length with h | h
 ·right;rw [getD_at h];exact ho _ (List.getElem_mem h)
 ·left;rw [List.getD_eq_getElem?_getD,List.getElem?_eq_none h];rfl
theorem writes_calm {own:List Int} {ls:List (List Int)} {d d':St} {k:Nat} {x:Int} (h:Writes own ls d k d' x):Store.Calm d->(∀ z∈own,2<=z/\z<(d.n:Int))->(∀ j,(hj:j<own.length)->∃ l,Enc own[j] (listP own ls j) l)->x=0:=by
 induction h with
 | done _=>exact fun _ _ _=>rfl
 | fail hk hw hx =>
  intro hc ho he;rw [getD_at hk] at hw;have:=ho _ (List.getElem_mem hk);exact absurd (writeR_calm hw hc (by omega) (by omega) (he _ hk)) hx
 | step hk hw _ ih =>
  intro hc ho he;have g:=hw.writ;exact ih (g.calm hc) (fun z hz=>by rw [g.n];exact ho z hz) he
theorem sync_get {d:St} (h:Store.Calm d) (x:Int):d.sync.get x=d.get x:=by
 obtain ⟨h1,h2⟩:=sync_done (sync_calm h).2;rw [St.get,h2 x,<- h1 x]
 rfl
def noOwn (t:T):T:={t with own:=[]}
theorem take_noOwn (t:T) (N:Int):takeT (noOwn t) N=(noOwn (takeT t N).1,(takeT t N).2.1,(takeT t N).2.2):=by
 unfold takeT noOwn;show (if (takeP t.pool N).2.2=0 then _ else _:T×Int×Int)=_
 split <;> rfl
theorem drop_noOwn (t:T) (n:Int):dropT (noOwn t) n=(noOwn (dropT t n).1,(dropT t n).2):=by
 unfold dropT backT giveT frT noOwn
 by_cases hf:t.fresh n=true <;> by_cases h1:(backP t.pool n).2=0 <;> by_cases h2:(giveP t.pool n).2=0 <;> simp [hf,h1,h2]
theorem acct_noOwn {t:T} {ps:List Int}:Acct t ps↔Acct (noOwn t) (ps++t.own):=by
 constructor
 ·intro h;refine ⟨fun x hx=>(List.mem_append.1 hx).elim (h.may x) (h.own x),fun x hx=>(by cases hx),by show ((ps++t.own)++[]).Nodup;rw [List.append_nil];exact h.nd,?_⟩;have:=h.cnt;show (((ps++t.own).length+([]:List Int).length+t.pool.free.length+t.pool.limbo.length:Nat):Int)+2=t.pool.high;rw [List.length_append,List.length_nil];omega
 ·intro h;refine ⟨fun x hx=>h.may x (List.mem_append_left _ hx),fun x hx=>h.may x (List.mem_append_right _ hx),?_,?_⟩
  ·have:=h.nd;have e:(ps++t.own)++(noOwn t).own=ps++t.own:=List.append_nil _;rw [e] at this;exact this
  ·have:=h.cnt;have e:(((ps++t.own).length+([]:List Int).length+t.pool.free.length+t.pool.limbo.length:Nat):Int)+2=t.pool.high:=this;rw [List.length_append,List.length_nil] at e;omega
theorem drops_acct (N:Int) (ps:List Int):∀ (l:List Int) {t:T},Acct (noOwn t) (l++ps)->Acct (noOwn (dropAll t l)) ps/\avail t N<=avail (dropAll t l) N
 | [],t,h=>⟨h,Nat.le_refl _⟩
 | n :: l,t,h=>by
  obtain ⟨-,b,a⟩:=(Book.mk (K:=coldOf (noOwn t) ((n :: l)++ps)+(noOwn t).pool.limbo.length) h (Nat.le_refl _)).drop (ps:=l++ps) N;rw [drop_noOwn] at b a;obtain ⟨h1,h2⟩:=drops_acct N ps l (t:=(dropT t n).1) b.acct;have a:avail t N<=avail (dropT t n).1 N:=a;exact ⟨h1,Nat.le_trans a h2⟩
theorem takes_acct {N:Int} {ps:List Int} {M:Nat} {t t':T} {own own':List Int} {x:Int} (h:Takes N t own t' own' x):PoolOk t.pool N->Acct (noOwn t) (own++ps)->many t.pool<=M->own.length<=M ->
 (x≠0/\avail t N+own.length<M)\/(x=0/\Acct (noOwn t') (own'++ps)/\own'.length<=M/\PoolOk t'.pool N/\many t'.pool<=own'.length):=by
 induction h with
 | done h=>exact fun hk ha hm hl=>.inr ⟨rfl,ha,hl,hk,h⟩
 | @fail t own h hx =>
  intro hk ha hm hl;rcases take_avail hk with ⟨g1,-⟩ | ⟨g1,g2⟩
  ·exact absurd g1 hx
  ·exact .inl ⟨hx,by omega⟩
 | @step t own t' own' x h hx _ ih =>
  intro hk ha hm hl;rcases take_avail hk with ⟨g1,g2,g3,g4⟩ | ⟨g1,g2⟩
  rotate_left
  ·rw [hx] at g1;exact absurd g1 (by decide)
  have a1:Acct (noOwn (takeT t N).1) ((takeT t N).2.1 :: (own++ps)):=by
   have hx':(takeT (noOwn t) N).2.2=0:=by rw [take_noOwn];exact hx
   have:=ha.take (N:=N) hk hx';rw [take_noOwn] at this;exact this
  rcases ih (takeT_ok hk) (a1.perm (by simp only [List.append_assoc,List.singleton_append];exact List.perm_middle.symm)) (Nat.le_trans (take_many t N) hm) (by rw [List.length_append,List.length_singleton];omega) with ⟨h1,h2⟩ | h1
  ·rw [List.length_append,List.length_singleton] at h2;exact .inl ⟨h1,by omega⟩
  ·exact .inr h1
theorem new_acct {t:T} {p:Pg} {own ps:List Int} (h:Acct (noOwn t) (own++ps)):Acct (newT t p own) ps:=by
 have up:∀ x,May t.pool x->May (turnP t.pool) x:=fun x hx=>⟨hx.1,fun hf=>by
  rcases (Pool.layAll_mem t.pool.free t.pool.limbo x).1 hf with e | e
  ·exact hx.2.1 e
  ·exact hx.2.2 e,fun hl=>by cases hl⟩
 have hnd:(own++ps).Nodup:=by
  have:=h.nd;have e:(own++ps)++(noOwn t).own=own++ps:=List.append_nil _;rw [e] at this;exact this
 refine ⟨fun x hx=>up x (h.may x (List.mem_append_right _ hx)),fun x hx=>up x (h.may x (List.mem_append_left _ hx)),(List.perm_append_comm.nodup_iff).1 hnd,?_⟩;have:=h.cnt;have e:(((own++ps).length+([]:List Int).length+t.pool.free.length+t.pool.limbo.length:Nat):Int)+2=t.pool.high:=this;show ((ps.length+own.length+(layAll t.pool.free t.pool.limbo).length+([]:List Int).length:Nat):Int)+2=t.pool.high
 rw [Pool.layAll_len];simp only [List.length_append,List.length_nil] at e ⊢;omega
theorem tree_pages {d:St} {t:T} {r dp:Int} {es:Ents} {K:Nat} (h:TreeAt d t r dp es K):∃ ps,Book t ps K/\((dp=0/\r=0/\es=[]/\ps=[])\/∃ m:Nat,dp=((m+1:Nat):Int)/\IsT d (m+1) r (es,ps)):=by
 rcases h with ⟨h1,h2,h3,h4⟩ | ⟨m,ps,h1,h2,h3⟩
 ·exact ⟨[],h4,.inl ⟨h1,h2,h3,rfl⟩⟩
 ·exact ⟨ps,h3,.inr ⟨m,h1,h2⟩⟩
structure Kept (d:St) (t:T) (r dp c:Int) (es:Ents):Prop where
 safe:Store.Safe d t
 calm:Store.Calm d
 tree:∃ ps,Acct {t with pool:=t.base} ps/\2*ps.length<=es.length+2/\(∀ x∈ps,Live t.base x)/\((dp=0/\r=0/\es=[]/\ps=[])\/∃ m:Nat,dp=((m+1:Nat):Int)/\IsT d (m+1) r (es,ps))
 cnt:c=(es.length:Int)
 limbo:t.base.limbo=[]
 sup:t.sup.root=r/\t.sup.depth=dp/\t.sup.count=c
theorem keep_good {d d':St} {t t':T} {r dp c x:Int} {es:Ents} {K:Nat} (g:Good d t r dp c es K) (he:es.length<512) (hep:t.sup.epoch+1<18446744073709551616) (hav:21<=avail t d.n) (hn:2<=d.n) (h:CommitR d t r dp c d' t' x) :
 x=0/\Good d' t' r dp c es ((es.length+2) / 2)/\Kept d' t' r dp c es/\t'.own.length<=21/\t'.sup.epoch=t.sup.epoch+1/\d'.n=d.n:=by
 obtain ⟨ps,hb,hT⟩:=tree_pages g.tree;have hpk:=g.pre.pk;have hnle:=g.pre.nle;have hcnt:=hb.acct.cnt;have htop:=hpk.top;have hlow:=hpk.low;have hrt:(r=0\/Page.Place r)/\(dp=0↔r=0)/\(c=0↔r=0)/\0<=dp/\dp<=20/\2*ps.length<=es.length+2:=by
  rcases hT with ⟨rfl,rfl,rfl,rfl⟩ | ⟨m,rfl,hT⟩
  ·have:=g.cnt;simp only [List.length_nil] at this;exact ⟨.inl rfl,Iff.rfl,⟨fun _=>rfl,fun _=>this⟩,by omega,by omega,by simp⟩
  ·obtain ⟨s1,s2⟩:=root_size hT;have s1:2*ps.length<=es.length+2:=s1;have s2:2 ^ m<=es.length:=s2;have s3:=depth_few s2 he;have s4:0<2 ^ m:=Nat.pow_pos (by decide);have hpl:=hb.place_ hpk hnle (isT_mem hT);have:=g.cnt;unfold Page.Place at hpl ⊢;exact ⟨.inr hpl,by omega,by omega,by omega,by omega,s1⟩
 obtain ⟨q1,q2,q3,q4,q5,q6⟩:=hrt;have hcn:=g.cnt;have hso:SuperOk (superP t r dp c):=⟨q1,.inl rfl,⟨hlow,by show t.pool.high<=4096;omega⟩,⟨q4,q5⟩,q2,⟨by show 0<=c;omega,by show c<=2147483647;omega⟩,q3⟩;have hfine:=fine_super (p:=superP t r dp c) rfl hso (superP_bare _ _ _ _);have hM:many (dropAll t t.own).pool<=21:=by
  have a1:=(drops_acct (N:=d.n) ps t.own (t:=t) ((acct_noOwn.1 hb.acct).perm List.perm_append_comm)).1.cnt;have a1:((ps.length+([]:List Int).length+(dropAll t t.own).pool.free.length+(dropAll t t.own).pool.limbo.length:Nat):Int)+2=(dropAll t t.own).pool.high:=a1;have:=(dropAll_ok t.own hpk).top;rw [many_eq];omega
 obtain ⟨aD,avD⟩:=drops_acct (N:=d.n) ps t.own (t:=t) ((acct_noOwn.1 hb.acct).perm List.perm_append_comm);have tk:∀ {t2:T} {own:List Int} {x:Int},Takes d.n (dropAll t t.own) [] t2 own x->x=0/\Acct (noOwn t2) (own++ps)/\own.length<=21/\PoolOk t2.pool d.n/\many t2.pool<=own.length:=fun ht=>by
  rcases takes_acct (ps:=ps) (M:=21) ht (dropAll_ok t.own hpk) aD hM (Nat.zero_le _) with ⟨-,h2⟩ | h1
  ·simp only [List.length_nil] at h2;omega
  ·exact h1
 have pl:∀ {t2:T} {own:List Int},Acct (noOwn t2) (own++ps)->PoolOk t2.pool d.n->∀ z∈own,(2<=z/\z<(d.n:Int))/\Page.Place z:=fun a k z hz=>by
  have h1:2<=z/\z<_:=(a.may z (List.mem_append_left _ hz)).1;have h2:=k.top;have h3:z<(noOwn _).pool.high:=h1.2;have h4:z<(d.n:Int):=Int.lt_of_lt_of_le h3 h2;exact ⟨⟨h1.1,h4⟩,h1.1,by omega⟩
 have wr:∀ {t2:T} {own:List Int} {d2:St} {x:Int},Acct (noOwn t2) (own++ps)->PoolOk t2.pool d.n->Writes own (chunks (layAll t2.pool.free t2.pool.limbo)) d 0 d2 x->x=0:=fun {t2 own d2 x} a k hw=>by
  have hto:=turn_ok k;refine writes_calm hw g.calm (fun z hz=>(pl a k z hz).1) (fun j hj=>enc_other (pl a k _ (List.getElem_mem hj)).2 (list_fine (fun z hz=>(pl a k z hz).2) hto.free (fun z hz=>?_) j) (by show (3:Int)≠4;decide));have:=hto.f z hz;have h2:=k.top;have h3:z<t2.pool.high:=this.2;exact ⟨this.1,by omega⟩
 have ld:∀ {t2:T} {own:List Int},Acct (noOwn t2) (own++ps)->PoolOk t2.pool d.n->∃ l,Enc (((superP t r dp c).epoch % 2:Nat):Int) (leadP (superP t r dp c) t2 own) l:=fun {t2 own} a k=>by
  refine enc_super (by omega) (fine_super (p:=leadP (superP t r dp c) t2 own) rfl ⟨q1,?_,⟨k.low,by have:=k.top;show t2.pool.high<=4096;omega⟩,⟨q4,q5⟩,q2,⟨by show 0<=c;omega,by show c<=2147483647;omega⟩,q3⟩ ⟨rfl,rfl,rfl,rfl⟩) rfl;show own.headD 0=0\/Page.Place (own.headD 0);rcases own with _ | ⟨o,os⟩
  ·exact .inl rfl
  ·exact .inr (pl a k o (List.mem_cons_self ..)).2
 have hend:=commit_ends g.pre hep h;rcases h with ⟨hno,-⟩ | ⟨-,⟨t2,hx,hh,-⟩ | ⟨rfl,t2,p,own,hr,rfl⟩⟩
 ·exact absurd hfine hno
 ·exfalso
  cases hh with
  | take ht h=>exact h (tk ht).1
  | list r1 hw h =>
   cases r1 with
   | take ht =>
    obtain ⟨-,a,-,k,-⟩:=tk ht;exact h (wr a k hw)
  | sync r1 h =>
   cases r1 with
   | list r1 hw=>exact h (sync_calm (by
    have:∀ {d1 d2:St} {own:List Int} {ls:List (List Int)} {k:Nat} {x:Int},Writes own ls d1 k d2 x->Store.Calm d1->Store.Calm d2:=fun hw=>by
     induction hw with
     | done _=>exact id
     | fail _ hw _=>exact hw.writ.calm
     | step _ hw _ ih=>exact fun hc=>ih (hw.writ.calm hc)
    cases r1 with
    | take ht=>exact this hw g.calm)).2
  | lead r1 hw h =>
   obtain ⟨f,-⟩:=reach_full g.pre r1;cases r1 with
   | sync r1 hs =>
    cases r1 with
    | list r1 hw0 =>
     cases r1 with
     | take ht =>
      obtain ⟨-,a,-,k,-⟩:=tk ht;exact h (writeR_calm hw (f.calm g.calm) (by omega) (by rw [f.step.n];omega) (ld a k))
  | last r1 h =>
   cases r1 with
   | lead r1 hw =>
    obtain ⟨f,-⟩:=reach_full g.pre r1;exact h (sync_calm (hw.writ.calm (f.calm g.calm))).2
 ·rcases hend with ⟨hx,-⟩ | ⟨hx,-⟩ | ⟨-,md⟩
  ·exact absurd rfl hx
  ·exact absurd rfl hx
  have hcm:=md.calm g.calm;cases hr with
  | last r1 hs2 =>
   cases r1 with
   | lead r1 hwl =>
    cases r1 with
    | sync r1 hs =>
     cases r1 with
     | list r1 hw0 =>
      cases r1 with
      | take ht =>
       obtain ⟨-,a,hol,k,-⟩:=tk ht;have W:=hw0.writs (by
        have:=a.nd;have e:(own++ps)++(noOwn t2).own=own++ps:=List.append_nil _;rw [e] at this;exact (List.nodup_append.1 this).1)
       have gl:=hwl.writ;have c1:=W.calm g.calm;have c2:=(sync_calm c1).1;have c3:=gl.calm c2;have hnd:(own++ps).Nodup:=by
        have:=a.nd;have e:(own++ps)++(noOwn t2).own=own++ps:=List.append_nil _;rw [e] at this;exact this
       have hget:∀ z∈ps,St.get (St.sync _) z=d.get z:=fun z hz=>by
        have hz2:2<=z:=(a.may z (List.mem_append_right _ hz)).1.1;rw [sync_get c3,writ_get gl (by omega),sync_get c1,St.get,St.get,W.L,W.C z (fun ho=>(List.nodup_append.1 hnd).2.2 z ho z hz rfl)]
       have na:=new_acct (p:=leadP (superP t r dp c) t2 own) a;have hT':(dp=0/\r=0/\es=[]/\ps=[])\/∃ m:Nat,dp=((m+1:Nat):Int)/\IsT _ (m+1) r (es,ps):=hT.imp id (fun ⟨m,e,h⟩=>⟨m,e,h.keep g.calm hcm md.n hget⟩);have bk:Book (newT t2 (leadP (superP t r dp c) t2 own) own) ps ((es.length+2) / 2):=⟨na,by
        have e:coldOf (newT t2 (leadP (superP t r dp c) t2 own) own) ps=ps.length:=by
         unfold coldOf
         congr 1
         exact List.filter_eq_self.2 (fun _ _=>rfl)
        rw [e];show ps.length+0<=_;omega⟩
       refine ⟨rfl,⟨md.safe.pre,hcm,?_,g.cnt⟩,⟨md.safe,hcm,⟨ps,na,q6,fun z hz=>?_,hT'⟩,g.cnt,rfl,⟨rfl,rfl,rfl⟩⟩,hol,md.epoch,md.n⟩
       ·rcases hT' with ⟨e1,e2,e3,e4⟩ | ⟨m,e1,e2⟩
        ·exact .inl ⟨e1,e2,e3,by rw [e4] at bk;exact bk⟩
        ·exact .inr ⟨m,ps,e1,e2,bk⟩
       ·have hm:=na.may z hz;exact ⟨hm.1.1,hm.1.2,hm.2.1⟩
theorem drops_step {d0 d:St} {t0 t t':T} {n:Nat} {os os':List Int} {x:Int} (h:Drops n t os t' os' x):Step d0 t0 d t->Step d0 t0 d t':=by
 induction h with
 | done _=>exact id
 | fail _ _ _=>exact fun s=>s.drop _
 | step _ _ _ ih=>exact fun s=>ih (s.drop _)
theorem lays_step {d0 d d':St} {t0 t t':T} (hp:Pre d0 t0) {ps:List Pg} {os ns ns':List Int} {k:Nat} {x:Int} (h:Lays ps os d t k ns d' t' ns' x):Step d0 t0 d t->Step d0 t0 d' t':=by
 induction h with
 | done _=>exact id
 | fail _ hl _=>exact fun s=>s.lay hp hl
 | step _ hl _ ih=>exact fun s=>ih (s.lay hp hl)
theorem spread_step {d0 d d':St} {t0 t t':T} (hp:Pre d0 t0) {p:Pg} {os ns:List Int} {ks:List Disk.Bs} {x:Int} (h:SpreadR d t p os d' t' ks ns x) (s:Step d0 t0 d t):Step d0 t0 d' t':=by
 obtain ⟨t1,os1,x1,hD,⟨-,rfl,rfl,-⟩ | ⟨-,hL,-⟩⟩:=h
 ·exact drops_step hD s
 ·exact lays_step hp hL (drops_step hD s)
theorem put_step {d0 d d':St} {t0 t t':T} (hp:Pre d0 t0) {st:Stp} {p b:Pg} {x:Int} (h:PutR st p d t d' t' b x) (s:Step d0 t0 d t):Step d0 t0 d' t':=by
 rcases h with ⟨-,ks,ns,h,-⟩ | ⟨-,⟨rfl,rfl,-⟩ | ⟨q,-,ks,ns,h,-⟩⟩
 ·exact spread_step hp h s
 ·exact s
 ·exact spread_step hp h s
theorem crown_step {d0 d d':St} {t0 t t':T} (hp:Pre d0 t0) {n N r dp r' dp' x:Int} {p:Pg} (h:CRel n N r dp p d t d' t' r' dp' x) (s:Step d0 t0 d t):Step d0 t0 d' t':=by
 rcases h with ⟨-,rfl,rfl,-⟩ | ⟨-,d1,t1,ks,ns,x1,hS,⟨-,-,rfl,rfl,-⟩ | ⟨-,-,-,rfl,rfl,-⟩ | ⟨-,-,n,x2,hl,-⟩⟩
 ·exact s.drop _
 ·exact spread_step hp hS s
 ·exact spread_step hp hS s
 ·exact (spread_step hp hS s).lay hp hl
theorem climb_step {d0:St} {t0:T} (hp:Pre d0 t0) {n N r dp:Int} {ss:List Stp} {p:Pg} {d d':St} {t t':T} {r' dp' x:Int} (h:ClimbD PutR (CRel n N r dp) r dp ss p d t d' t' r' dp' x):Step d0 t0 d t->Step d0 t0 d' t':=by
 induction h with
 | top h=>exact crown_step hp h
 | err h _=>exact put_step hp h
 | same h _ _=>exact put_step hp h
 | up h _ _ ih=>exact fun s=>ih (put_step hp h s)
theorem change_step {d d':St} {t t':T} (hp:Pre d t) {P:List Stp->Stp->Prop} {Q:Int->Prop} {RC:List Stp->Stp->List (Disk.Bs×Disk.Bs)->St->T->Int->Int->Int->Prop} {f:List (Disk.Bs×Disk.Bs)->List (Disk.Bs×Disk.Bs)} {r dp c r' dp' c' x:Int}
 (hs:∀ l s np d' t' r' dp' x,RC l s np d' t' r' dp' x->Step d t d' t') (h:ChangeD P Q RC f d t r dp c d' t' r' dp' c' x):Step d t d' t':=by
 rcases h with ⟨l,s,-,-,-,rfl,rfl,-⟩ | ⟨l,s,-,-,hR,-⟩ | ⟨-,-,rfl,rfl,-⟩
 ·exact hp.refl
 ·exact hs _ _ _ _ _ _ _ _ hR
 ·exact hp.refl
theorem cutd_step {d d':St} {t t':T} (hp:Pre d t) {P:List Stp->Stp->Prop} {Q:Int->Prop} {RC:List Stp->Stp->List (Disk.Bs×Disk.Bs)->St->T->Int->Int->Int->Prop} {key:Disk.Bs} {r dp c r' dp' c' x:Int} {had:Bool}
 (hs:∀ l s np d' t' r' dp' x,RC l s np d' t' r' dp' x->Step d t d' t') (h:CutD P Q RC key d t r dp c d' t' r' dp' c' x had):Step d t d' t':=by
 rcases h with ⟨l,s,-,-,-,rfl,rfl,-⟩ | ⟨l,s,-,-,hR,-⟩ | ⟨-,-,rfl,rfl,-⟩
 ·exact hp.refl
 ·exact hs _ _ _ _ _ _ _ _ hR
 ·exact hp.refl
end Go.Proofs.YtbhfammnffecoaaGreat.Tree

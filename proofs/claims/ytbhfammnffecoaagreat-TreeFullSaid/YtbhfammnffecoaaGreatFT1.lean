import Derived.Test.YtbhfammnffecoaaGreatMT13
set_option maxRecDepth 100000
set_option maxHeartbeats 32000000
namespace Go.Proofs.YtbhfammnffecoaaGreat.Store
open Go.RowKit Gen
open Disk (St Dev Mod ptr)
open Page (Pg Lay PgOk PgRows pgC pgV Enc IsDec BytesAt)
open Pool (Po NAt PoAt La poC poV numV At takeP giveP backP Fresh PoolOk OwnI chunks layAll May)
open Lib (hid)
theorem Step.abort {d d1:St} {t t1:T} (s:Step d t d1 t1) (h:Pre d t):Step d t d1 (abortT t1):=s.pool (abort_part t1) s.inv.abort (by show PoolOk t1.base d.n;rw [s.part.base];exact h.bk)
end Go.Proofs.YtbhfammnffecoaaGreat.Store
namespace Go.Proofs.YtbhfammnffecoaaGreat.Tree
open Go.RowKit Gen
open Disk (St Dev Mod ptr)
open Page (Pg Lay less Enc IsDec Lt Rises KeyOk Fine FreeOk SuperOk)
open Pool (Po takeP giveP backP PoolOk chunks layAll May Rise)
open Store
open Lib (hid)
theorem Kept.back {d d':St} {t t':T} {r dp c:Int} {es:Ents} (h:Kept d t r dp c es) (hc:Store.Calm d') (s:Step d t d' t'):Good d' (abortT t') r dp c es ((es.length+2) / 2)/\Kept d' (abortT t') r dp c es:=by
 obtain ⟨ps,ha,hl,hlv,hT⟩:=h.tree;have s1:=s.abort h.safe.pre;have sf:=s1.safe h.safe;have hget:∀ z∈ps,d'.get z=d.get z:=fun z hz=>by
  have h1:=sf.get (x:=z) (.inr (.inr (by rw [s1.part.base];exact hlv z hz)));have h2:=h.safe.get (x:=z) (.inr (.inr (hlv z hz)));rw [h1,h2,s.L z (.inr (.inr (hlv z hz)))]
 have hT':(dp=0/\r=0/\es=[]/\ps=[])\/∃ m:Nat,dp=((m+1:Nat):Int)/\IsT d' (m+1) r (es,ps):=hT.imp id (fun ⟨m,e,h'⟩=>⟨m,e,h'.keep h.calm hc s.n hget⟩);have ha':Acct (abortT t') ps:=by
  obtain ⟨a1,a2,a3,a4⟩:=ha;have e1:(abortT t').pool=t.base:=s.part.base;have e2:(abortT t').own=t.own:=s.part.own;exact ⟨fun x hx=>by rw [e1];exact a1 x hx,fun x hx=>by rw [e1];rw [e2] at hx;exact a2 x hx,by rw [e2];exact a3,by rw [e1,e2];exact a4⟩
 have bk:Book (abortT t') ps ((es.length+2) / 2):=⟨ha',by
  have e:coldOf (abortT t') ps=ps.length:=by
   unfold coldOf
   congr 1
   exact List.filter_eq_self.2 (fun _ _=>rfl)
  have e1:(abortT t').pool=t.base:=s.part.base;rw [e,e1,h.limbo];simp only [List.length_nil];omega⟩
 refine ⟨⟨sf.pre,hc,?_,h.cnt⟩,⟨sf,hc,⟨ps,ha',hl,fun z hz=>?_,hT'⟩,h.cnt,?_,?_⟩⟩
 ·rcases hT' with ⟨e1,e2,e3,e4⟩ | ⟨m,e1,e2⟩
  ·exact .inl ⟨e1,e2,e3,by rw [e4] at bk;exact bk⟩
  ·exact .inr ⟨m,ps,e1,e2,bk⟩
 ·have e:(abortT t').base=t.base:=s.part.base;rw [e];exact hlv z hz
 ·have e:(abortT t').base=t.base:=s.part.base;rw [e];exact h.limbo
 ·have e:(abortT t').sup=t.sup:=s.part.sup;rw [e];exact h.sup
theorem Kept.step {d d':St} {t t':T} {r dp c:Int} {es:Ents} (h:Kept d t r dp c es) (hc:Store.Calm d') (s:Step d t d' t'):Kept d' t' r dp c es:=by
 obtain ⟨ps,ha,hl,hlv,hT⟩:=h.tree;have sf:=s.safe h.safe;have hget:∀ z∈ps,d'.get z=d.get z:=fun z hz=>by
  have h1:=sf.get (x:=z) (.inr (.inr (by rw [s.part.base];exact hlv z hz)));have h2:=h.safe.get (x:=z) (.inr (.inr (hlv z hz)));rw [h1,h2,s.L z (.inr (.inr (hlv z hz)))]
 refine ⟨sf,hc,⟨ps,?_,hl,fun z hz=>?_,hT.imp id (fun ⟨m,e,h'⟩=>⟨m,e,h'.keep h.calm hc s.n hget⟩)⟩,h.cnt,?_,?_⟩
 ·obtain ⟨a1,a2,a3,a4⟩:=ha;have e1:t'.base=t.base:=s.part.base;have e2:t'.own=t.own:=s.part.own;exact ⟨fun x hx=>by show May t'.base x;rw [e1];exact a1 x hx,fun x hx=>by show May t'.base x;rw [e1];exact a2 x (by rw [<- e2];exact hx),by show (ps++t'.own).Nodup;rw [e2];exact a3,by show ((ps.length+t'.own.length+t'.base.free.length+t'.base.limbo.length:Nat):Int)+2=t'.base.high;rw [e1,e2];exact a4⟩
 ·rw [s.part.base];exact hlv z hz
 ·rw [s.part.base];exact h.limbo
 ·rw [s.part.sup];exact h.sup
open Page (Pg Lay PgOk PgRows pgC pgV less Enc IsDec strV strB Lt Rises KeyOk Fine FreeOk SuperOk)
open Pool (Po takeP giveP backP PoolOk chunks layAll May Rise numV At)
theorem lay_stays {d d':St} {t t':T} {old n e:Int} {p:Pg} (h:LayR d t old p d' t' n e) (hc:Store.Calm d):Store.Calm d':=by
 rcases h with ⟨_,rfl,_⟩ | ⟨_,⟨_,rfl,_⟩ | ⟨_,x,hw,_⟩⟩
 ·exact hc
 ·exact hc
 ·exact hw.writ.calm hc
theorem lays_stays {d d':St} {t t':T} {ps:List Pg} {os ns ns':List Int} {k:Nat} {x:Int} (h:Lays ps os d t k ns d' t' ns' x):Store.Calm d->Store.Calm d':=by
 induction h with
 | done _=>exact id
 | fail _ hl _=>exact lay_stays hl
 | step _ hl _ ih=>exact fun s=>ih (lay_stays hl s)
theorem spread_stays {d d':St} {t t':T} {p:Pg} {os ns:List Int} {ks:List Disk.Bs} {x:Int} (h:SpreadR d t p os d' t' ks ns x) (s:Store.Calm d):Store.Calm d':=by
 obtain ⟨t1,os1,x1,hD,⟨-,rfl,rfl,-⟩ | ⟨-,hL,-⟩⟩:=h
 ·exact s
 ·exact lays_stays hL s
theorem put_stays {d d':St} {t t':T} {st:Stp} {p b:Pg} {x:Int} (h:PutR st p d t d' t' b x) (s:Store.Calm d):Store.Calm d':=by
 rcases h with ⟨-,ks,ns,h,-⟩ | ⟨-,⟨rfl,rfl,-⟩ | ⟨q,-,ks,ns,h,-⟩⟩
 ·exact spread_stays h s
 ·exact s
 ·exact spread_stays h s
theorem crown_stays {d d':St} {t t':T} {n N r dp r' dp' x:Int} {p:Pg} (h:CRel n N r dp p d t d' t' r' dp' x) (s:Store.Calm d):Store.Calm d':=by
 rcases h with ⟨-,rfl,rfl,-⟩ | ⟨-,d1,t1,ks,ns,x1,hS,⟨-,-,rfl,rfl,-⟩ | ⟨-,-,-,rfl,rfl,-⟩ | ⟨-,-,n,x2,hl,-⟩⟩
 ·exact s
 ·exact spread_stays hS s
 ·exact spread_stays hS s
 ·exact lay_stays hl (spread_stays hS s)
theorem climb_stays {n N r dp:Int} {ss:List Stp} {p:Pg} {d d':St} {t t':T} {r' dp' x:Int} (h:ClimbD PutR (CRel n N r dp) r dp ss p d t d' t' r' dp' x):Store.Calm d->Store.Calm d':=by
 induction h with
 | top h=>exact crown_stays h
 | err h _=>exact put_stays h
 | same h _ _=>exact put_stays h
 | up h _ _ ih=>exact fun s=>ih (put_stays h s)
theorem change_stays {d d':St} {t t':T} (hc:Store.Calm d) {P:List Stp->Stp->Prop} {Q:Int->Prop} {RC:List Stp->Stp->List (Disk.Bs×Disk.Bs)->St->T->Int->Int->Int->Prop} {f:List (Disk.Bs×Disk.Bs)->List (Disk.Bs×Disk.Bs)} {r dp c r' dp' c' x:Int}
 (hs:∀ l s np d' t' r' dp' x,RC l s np d' t' r' dp' x->Store.Calm d') (h:ChangeD P Q RC f d t r dp c d' t' r' dp' c' x):Store.Calm d':=by
 rcases h with ⟨l,s,-,-,-,rfl,rfl,-⟩ | ⟨l,s,-,-,hR,-⟩ | ⟨-,-,rfl,rfl,-⟩
 ·exact hc
 ·exact hs _ _ _ _ _ _ _ _ hR
 ·exact hc
theorem cutd_stays {d d':St} {t t':T} (hc:Store.Calm d) {P:List Stp->Stp->Prop} {Q:Int->Prop} {RC:List Stp->Stp->List (Disk.Bs×Disk.Bs)->St->T->Int->Int->Int->Prop} {key:Disk.Bs} {r dp c r' dp' c' x:Int} {had:Bool}
 (hs:∀ l s np d' t' r' dp' x,RC l s np d' t' r' dp' x->Store.Calm d') (h:CutD P Q RC key d t r dp c d' t' r' dp' c' x had):Store.Calm d':=by
 rcases h with ⟨l,s,-,-,-,rfl,rfl,-⟩ | ⟨l,s,-,-,hR,-⟩ | ⟨-,-,rfl,rfl,-⟩
 ·exact hc
 ·exact hs _ _ _ _ _ _ _ _ hR
 ·exact hc
theorem takes_full {N:Int} {t t':T} {own own':List Int} {x:Int} (h:Takes N t own t' own' x):PoolOk t.pool N->x≠0->x=60:=by
 induction h with
 | done h=>exact fun _ hx=>absurd rfl hx
 | fail h hx =>
  intro hk _;rcases take_avail hk with ⟨g1,-⟩ | ⟨g1,-⟩
  ·exact absurd g1 hx
  ·exact g1
 | step h hx _ ih=>exact fun hk h=>ih (takeT_ok hk) h
theorem keep_some {d d':St} {t t':T} {r dp c x:Int} {es:Ents} {K:Nat} (g:Good d t r dp c es K) (he:es.length<512) (hep:t.sup.epoch+1<18446744073709551616) (hn:2<=d.n) (h:CommitR d t r dp c d' t' x) :
 (x=60/\Step d t d' t'/\Store.Calm d')\/(x=0/\Good d' t' r dp c es ((es.length+2) / 2)/\Kept d' t' r dp c es/\t'.sup.epoch=t.sup.epoch+1/\d'.n=d.n):=by
 obtain ⟨ps,hb,hT⟩:=tree_pages g.tree;have hpk:=g.pre.pk;have hnle:=g.pre.nle;have hcnt:=hb.acct.cnt;have htop:=hpk.top;have hlow:=hpk.low;have hrt:(r=0\/Page.Place r)/\(dp=0↔r=0)/\(c=0↔r=0)/\0<=dp/\dp<=20/\2*ps.length<=es.length+2:=by
  rcases hT with ⟨rfl,rfl,rfl,rfl⟩ | ⟨m,rfl,hT⟩
  ·have:=g.cnt;simp only [List.length_nil] at this;exact ⟨.inl rfl,Iff.rfl,⟨fun _=>rfl,fun _=>this⟩,by omega,by omega,by simp⟩
  ·obtain ⟨s1,s2⟩:=root_size hT;have s1:2*ps.length<=es.length+2:=s1;have s2:2 ^ m<=es.length:=s2;have s3:=depth_few s2 he;have s4:0<2 ^ m:=Nat.pow_pos (by decide);have hpl:=hb.place_ hpk hnle (isT_mem hT);have:=g.cnt;unfold Page.Place at hpl ⊢;exact ⟨.inr hpl,by omega,by omega,by omega,by omega,s1⟩
 obtain ⟨q1,q2,q3,q4,q5,q6⟩:=hrt;have hcn:=g.cnt;have hso:SuperOk (superP t r dp c):=⟨q1,.inl rfl,⟨hlow,by show t.pool.high<=4096;omega⟩,⟨q4,q5⟩,q2,⟨by show 0<=c;omega,by show c<=2147483647;omega⟩,q3⟩;have hfine:=fine_super (p:=superP t r dp c) rfl hso (superP_bare _ _ _ _);have hM:many (dropAll t t.own).pool<=21:=by
  have a1:=(drops_acct (N:=d.n) ps t.own (t:=t) ((acct_noOwn.1 hb.acct).perm List.perm_append_comm)).1.cnt;have a1:((ps.length+([]:List Int).length+(dropAll t t.own).pool.free.length+(dropAll t t.own).pool.limbo.length:Nat):Int)+2=(dropAll t t.own).pool.high:=a1;have:=(dropAll_ok t.own hpk).top;rw [many_eq];omega
 obtain ⟨aD,-⟩:=drops_acct (N:=d.n) ps t.own (t:=t) ((acct_noOwn.1 hb.acct).perm List.perm_append_comm);have tk:∀ {t2:T} {own:List Int},Takes d.n (dropAll t t.own) [] t2 own 0->(0:Int)=0/\Acct (noOwn t2) (own++ps)/\own.length<=21/\PoolOk t2.pool d.n/\many t2.pool<=own.length:=fun ht=>by
  rcases takes_acct (ps:=ps) (M:=21) ht (dropAll_ok t.own hpk) aD hM (Nat.zero_le _) with ⟨h,-⟩ | h1
  ·exact absurd rfl h
  ·exact h1
 have pl:∀ {t2:T} {own:List Int},Acct (noOwn t2) (own++ps)->PoolOk t2.pool d.n->∀ z∈own,(2<=z/\z<(d.n:Int))/\Page.Place z:=fun a k z hz=>by
  have h1:2<=z/\z<_:=(a.may z (List.mem_append_left _ hz)).1;have h2:=k.top;have h3:z<(noOwn _).pool.high:=h1.2;have h4:z<(d.n:Int):=Int.lt_of_lt_of_le h3 h2;exact ⟨⟨h1.1,h4⟩,h1.1,by omega⟩
 have wr:∀ {t2:T} {own:List Int} {d2:St} {x:Int},Acct (noOwn t2) (own++ps)->PoolOk t2.pool d.n->Writes own (chunks (layAll t2.pool.free t2.pool.limbo)) d 0 d2 x->x=0:=fun {t2 own d2 x} a k hw=>by
  have hto:=turn_ok k;refine writes_calm hw g.calm (fun z hz=>(pl a k z hz).1) (fun j hj=>enc_other (pl a k _ (List.getElem_mem hj)).2 (list_fine (fun z hz=>(pl a k z hz).2) hto.free (fun z hz=>?_) j) (by show (3:Int)≠4;decide));have:=hto.f z hz;have h2:=k.top;have h3:z<t2.pool.high:=this.2;exact ⟨this.1,by omega⟩
 have ld:∀ {t2:T} {own:List Int},Acct (noOwn t2) (own++ps)->PoolOk t2.pool d.n->∃ l,Enc (((superP t r dp c).epoch % 2:Nat):Int) (leadP (superP t r dp c) t2 own) l:=fun {t2 own} a k=>by
  refine enc_super (by omega) (fine_super (p:=leadP (superP t r dp c) t2 own) rfl ⟨q1,?_,⟨k.low,by have:=k.top;show t2.pool.high<=4096;omega⟩,⟨q4,q5⟩,q2,⟨by show 0<=c;omega,by show c<=2147483647;omega⟩,q3⟩ ⟨rfl,rfl,rfl,rfl⟩) rfl;show own.headD 0=0\/Page.Place (own.headD 0);rcases own with _ | ⟨o,os⟩
  ·exact .inl rfl
  ·exact .inr (pl a k o (List.mem_cons_self ..)).2
 have hend:=commit_ends g.pre hep h;rcases h with ⟨hno,-⟩ | ⟨-,⟨t2,hx,hh,-⟩ | ⟨rfl,t2,p,own,hr,rfl⟩⟩
 ·exact absurd hfine hno
 ·by_cases hne:x=60
  ·rcases hend with ⟨-,s,cc⟩ | ⟨-,-,hcc⟩ | ⟨h0,-⟩
   ·exact .inl ⟨hne,s,cc g.calm⟩
   ·exact absurd g.calm hcc
   ·exact absurd h0 hx
  exfalso
  cases hh with
  | take ht h=>exact hne (takes_full ht (dropAll_ok t.own hpk) h)
  | list r1 hw h =>
   cases r1 with
   | take ht =>
    obtain ⟨-,a,-,k,-⟩:=tk ht;exact h (wr a k hw)
  | sync r1 h =>
   cases r1 with
   | list r1 hw=>exact h (sync_calm (by
    have:∀ {d1 d2:St} {own:List Int} {ls:List (List Int)} {k:Nat} {x:Int},Writes own ls d1 k d2 x->Store.Calm d1->Store.Calm d2:=fun hw=>by
     induction hw with
     | done _=>exact id
     | fail _ hw _=>exact hw.writ.calm
     | step _ hw _ ih=>exact fun hc=>ih (hw.writ.calm hc)
    cases r1 with
    | take ht=>exact this hw g.calm)).2
  | lead r1 hw h =>
   obtain ⟨f,-⟩:=reach_full g.pre r1;cases r1 with
   | sync r1 hs =>
    cases r1 with
    | list r1 hw0 =>
     cases r1 with
     | take ht =>
      obtain ⟨-,a,-,k,-⟩:=tk ht;exact h (writeR_calm hw (f.calm g.calm) (by omega) (by rw [f.step.n];omega) (ld a k))
  | last r1 h =>
   cases r1 with
   | lead r1 hw =>
    obtain ⟨f,-⟩:=reach_full g.pre r1;exact h (sync_calm (hw.writ.calm (f.calm g.calm))).2
 ·rcases hend with ⟨hx,-⟩ | ⟨hx,-⟩ | ⟨-,md⟩
  ·exact absurd rfl hx
  ·exact absurd rfl hx
  have hcm:=md.calm g.calm;cases hr with
  | last r1 hs2 =>
   cases r1 with
   | lead r1 hwl =>
    cases r1 with
    | sync r1 hs =>
     cases r1 with
     | list r1 hw0 =>
      cases r1 with
      | take ht =>
       obtain ⟨-,a,-,k,-⟩:=tk ht;have W:=hw0.writs (by
        have:=a.nd;have e:(own++ps)++(noOwn t2).own=own++ps:=List.append_nil _;rw [e] at this;exact (List.nodup_append.1 this).1)
       have gl:=hwl.writ;have c1:=W.calm g.calm;have c2:=(sync_calm c1).1;have c3:=gl.calm c2;have hnd:(own++ps).Nodup:=by
        have:=a.nd;have e:(own++ps)++(noOwn t2).own=own++ps:=List.append_nil _;rw [e] at this;exact this
       have hget:∀ z∈ps,St.get (St.sync _) z=d.get z:=fun z hz=>by
        have hz2:2<=z:=(a.may z (List.mem_append_right _ hz)).1.1;rw [sync_get c3,writ_get gl (by omega),sync_get c1,St.get,St.get,W.L,W.C z (fun ho=>(List.nodup_append.1 hnd).2.2 z ho z hz rfl)]
       have na:=new_acct (p:=leadP (superP t r dp c) t2 own) a;have hT':(dp=0/\r=0/\es=[]/\ps=[])\/∃ m:Nat,dp=((m+1:Nat):Int)/\IsT _ (m+1) r (es,ps):=hT.imp id (fun ⟨m,e,h⟩=>⟨m,e,h.keep g.calm hcm md.n hget⟩);have bk:Book (newT t2 (leadP (superP t r dp c) t2 own) own) ps ((es.length+2) / 2):=⟨na,by
        have e:coldOf (newT t2 (leadP (superP t r dp c) t2 own) own) ps=ps.length:=by
         unfold coldOf
         congr 1
         exact List.filter_eq_self.2 (fun _ _=>rfl)
        rw [e];show ps.length+0<=_;omega⟩
       refine .inr ⟨rfl,⟨md.safe.pre,hcm,?_,g.cnt⟩,⟨md.safe,hcm,⟨ps,na,q6,fun z hz=>?_,hT'⟩,g.cnt,rfl,⟨rfl,rfl,rfl⟩⟩,md.epoch,md.n⟩
       ·rcases hT' with ⟨e1,e2,e3,e4⟩ | ⟨m,e1,e2⟩
        ·exact .inl ⟨e1,e2,e3,by rw [e4] at bk;exact bk⟩
        ·exact .inr ⟨m,ps,e1,e2,bk⟩
       ·have hm:=na.may z hz;exact ⟨hm.1.1,hm.1.2,hm.2.1⟩
structure HoldF (k:Nat) (d:St) (t:T) (r dp c:Int) (es es0:Ents) (K:Nat):Prop where
 good:Good d t r dp c es K
 kept:∃ r0 dp0 c0,Kept d t r0 dp0 c0 es0
 few:es.length<=k
 few0:es0.length<=k
 ep:t.sup.epoch<=k+2
 n:2<=d.n/\d.n<=100
theorem HoldF.dp {k:Nat} {d:St} {t:T} {r dp c:Int} {es es0:Ents} {K:Nat} (h:HoldF k d t r dp c es es0 K) (hk:k<=200):dp=0\/∃ m:Nat,dp=((m+1:Nat):Int)/\m<9:=by
 have h1:=h.few;exact (h.good.room (by omega)).1
theorem HoldF.cnt {k:Nat} {d:St} {t:T} {r dp c:Int} {es es0:Ents} {K:Nat} (h:HoldF k d t r dp c es es0 K) (hk:k<=200):0<=c/\c<=1000000:=by
 have:=h.good.cnt;have:=h.few;omega
theorem good_root {d:St} {t:T} {r dp c:Int} {es:Ents} {K:Nat} (h:Good d t r dp c es K):I64 r:=by
 rcases h.tree with ⟨-,rfl,-⟩ | ⟨m,ps,-,hT,hb⟩
 ·exact ⟨by omega,by omega⟩
 ·have:=hb.place_ h.pre.pk h.pre.nle (isT_mem hT);unfold Page.Place at this;exact ⟨by omega,by omega⟩
theorem HoldF.next {k:Nat} {d d':St} {t t':T} {r dp c r' dp' c':Int} {es es' es0:Ents} {K:Nat} (h:HoldF k d t r dp c es es0 K) (g:Good d' t' r' dp' c' es' K) (s:Step d t d' t') (hl:es'.length<=es.length+1):HoldF (k+1) d' t' r' dp' c' es' es0 K:=by
 have h1:=h.few;have h2:=h.ep;have h3:=h.few0;obtain ⟨r0,dp0,c0,kp⟩:=h.kept;exact ⟨g,⟨r0,dp0,c0,kp.step g.calm s⟩,by omega,by omega,by rw [s.part.sup];omega,by rw [s.n];exact h.n⟩
theorem HoldF.back {k:Nat} {d d':St} {t t':T} {r dp c:Int} {es es0:Ents} {K:Nat} (h:HoldF k d t r dp c es es0 K) (s:Step d t d' t') (hc:Store.Calm d'):HoldF (k+1) d' (abortT t') t'.sup.root t'.sup.depth t'.sup.count es0 es0 ((es0.length+2) / 2):=by
 have h2:=h.ep;have h3:=h.few0;obtain ⟨r0,dp0,c0,kp⟩:=h.kept;obtain ⟨g,kp'⟩:=kp.back hc s;have e1:t'.sup=t.sup:=s.part.sup;obtain ⟨e2,e3,e4⟩:=kp.sup;rw [e1,e2,e3,e4];exact ⟨g,⟨r0,dp0,c0,kp'⟩,by omega,by omega,by show t'.sup.epoch<=k+1+2;rw [e1];omega,by rw [s.n];exact h.n⟩
def HandF (w0 w:World) (B:Blk) (tb k:Nat) (es es0:Ents):Prop:=∃ d t r dp c K,TrOn w0 w B tb d t r dp c/\HoldF k d t r dp c es es0 K
theorem HandF.quiet {w0 w w':World} {B:Blk} {tb k:Nat} {es es0:Ents} (h:HandF w0 w B tb k es es0) (b:Below w.heap.size w w'):HandF w0 w' B tb k es es0:=by
 obtain ⟨d,t,r,dp,c,K,h1,h2⟩:=h;exact ⟨d,t,r,dp,c,K,h1.quiet b,h2⟩
theorem HandF.touch {w0 w w':World} {B:Blk} {tb k:Nat} {es es0:Ents} (h:HandF w0 w B tb k es es0) {x:Nat} (hx:x∈B.xs) (hn:x∉tall tb B) (h0:w0.heap.size<=x) (m:Mod [x] w w'):HandF w0 w' B tb k es es0:=by
 obtain ⟨d,t,r,dp,c,K,h1,h2⟩:=h;exact ⟨d,t,r,dp,c,K,h1.touch hx hn h0 m,h2⟩
theorem HandF.withx {w0 w w':World} {B:Blk} {tb k:Nat} {es es0:Ents} (h:HandF w0 w B tb k es es0) (b:Below w.heap.size w w') {x:Nat} (h1:w.heap.size<=x) (h2:x<w'.heap.size):HandF w0 w' (withX B x) tb k es es0:=by
 obtain ⟨d,t,r,dp,c,K,h3,h4⟩:=h;exact ⟨d,t,r,dp,c,K,h3.withx b h1 h2,h4⟩
theorem HandF.more {w0 w:World} {B:Blk} {tb k m:Nat} {es es0:Ents} (h:HandF w0 w B tb k es es0) (hm:k<=m):HandF w0 w B tb m es es0:=by
 obtain ⟨d,t,r,dp,c,K,h1,h2⟩:=h;exact ⟨d,t,r,dp,c,K,h1,⟨h2.good,h2.kept,Nat.le_trans h2.few hm,Nat.le_trans h2.few0 hm,by have:=h2.ep;omega,h2.n⟩⟩
theorem HandF.sorted {w0 w:World} {B:Blk} {tb k:Nat} {es es0:Ents} (h:HandF w0 w B tb k es es0):Sorted es:=by
 obtain ⟨d,t,r,dp,c,K,h1,h2⟩:=h;exact h2.good.sorted
theorem HandF.few {w0 w:World} {B:Blk} {tb k:Nat} {es es0:Ents} (h:HandF w0 w B tb k es es0):es.length<=k/\es0.length<=k:=by
 obtain ⟨d,t,r,dp,c,K,h1,h2⟩:=h;exact ⟨h2.few,h2.few0⟩
theorem HandF.lt {w0 w:World} {B:Blk} {tb k:Nat} {es es0:Ents} (h:HandF w0 w B tb k es es0):Below w0.heap.size w0 w/\∀ x∈tall tb B,x<w.heap.size:=by
 obtain ⟨d,t,r,dp,c,K,h1,h2⟩:=h;refine ⟨h1.below (Mod.refl _ _),fun x hx=>?_⟩;rcases Nat.lt_or_ge x w.heap.size with g | g
 ·exact g
 ·exact absurd hx (tall_new h1 g)
theorem setF_run {w0 w:World} {B:Blk} {tb k:Nat} {es es0:Ents} (h:HandF w0 w B tb k es es0) (hk:k<=200) (key val:Disk.Bs) (hk1:1<=key.length) (hk2:key.length<=48) (hv:val.length<=100) :
 Calls Tryz.prog 24 #[ptr tb,strV key,strV val] w (fun e w'=>Mod (tall tb B) w w'/\((e=.returned (.int .i64 0)/\HandF w0 w' B tb (k+1) (setP es key val) es0)\/(e=.returned (.int .i64 60)/\HandF w0 w' B tb (k+1) es0 es0))):=by
 obtain ⟨d,t,r,dp,c,K,h1,h2⟩:=h;have hpre:=h2.good.pre;have hlen:=set_len es key val;rcases h2.dp hk with rfl | ⟨m,rfl,hm⟩
 ·refine (set_first h1 (h2.cnt hk) key val hk1 hk2 hv).mono ?_;rintro e w' ⟨d',t',r',dp',c',x,rfl,hR,m1,hok,hno⟩;have st:=change_step hpre (fun l s np d' t' r' dp' x h=>crown_step hpre h hpre.refl) hR;have cl:=change_stays h2.good.calm (fun l s np d' t' r' dp' x h=>crown_stays h h2.good.calm) hR;rcases first_good h2.good key val ⟨hk1,hk2⟩ hv hR with ⟨rfl,-⟩ | ⟨rfl,g,-⟩
  ·exact ⟨m1,.inr ⟨rfl,⟨d',_,_,_,_,_,hno (by decide),h2.back st cl⟩⟩⟩
  ·exact ⟨m1,.inl ⟨rfl,⟨d',t',r',dp',c',K,hok rfl,h2.next g st hlen⟩⟩⟩
 ·refine (set_full (m:=m) (by omega) h1 (good_root h2.good) (h2.cnt hk) key val hk1 hk2 hv).mono ?_;rintro e w' ⟨d',t',r',dp',c',x,rfl,hR,m1,hok,hno⟩;have st:=change_step hpre (fun l s np d' t' r' dp' x h=>climb_step hpre h hpre.refl) hR;have cl:=change_stays h2.good.calm (fun l s np d' t' r' dp' x h=>climb_stays h h2.good.calm) hR;rcases set_good h2.good key val ⟨hk1,hk2⟩ hv hR with ⟨rfl,-⟩ | ⟨rfl,g,-⟩
  ·exact ⟨m1,.inr ⟨rfl,⟨d',_,_,_,_,_,hno (by decide),h2.back st cl⟩⟩⟩
  ·exact ⟨m1,.inl ⟨rfl,⟨d',t',r',dp',c',K,hok rfl,h2.next g st hlen⟩⟩⟩
theorem cutF_run {w0 w:World} {B:Blk} {tb k:Nat} {es es0:Ents} (h:HandF w0 w B tb k es es0) (hk:k<=200) (key:Disk.Bs) :
 Calls Tryz.prog 26 #[ptr tb,strV key] w (fun e w'=>Mod (tall tb B) w w'/\∃ b:Bool,((e=.returned (.tuple #[.bool b,.int .i64 0])/\HandF w0 w' B tb (k+1) (cutP es key) es0)\/(e=.returned (.tuple #[.bool b,.int .i64 60])/\HandF w0 w' B tb (k+1) es0 es0))):=by
 obtain ⟨d,t,r,dp,c,K,h1,h2⟩:=h;have hpre:=h2.good.pre;have hlen:=cutP_few es key;rcases h2.dp hk with rfl | ⟨m,rfl,hm⟩
 ·refine (cut_none h1 (h2.cnt hk) key).mono ?_;rintro e w' ⟨d',t',r',dp',c',x,had,rfl,hR,m1,hok,-⟩;have st:=cutd_step hpre (fun l s np d' t' r' dp' x h=>crown_step hpre h hpre.refl) hR;obtain ⟨-,rfl,g,-⟩:=none_good h2.good key hR;exact ⟨m1,_,.inl ⟨rfl,⟨d',t',r',dp',c',K,hok rfl,h2.next g st (by omega)⟩⟩⟩
 ·refine (cut_full (m:=m) (by omega) h1 (good_root h2.good) (h2.cnt hk) key).mono ?_;rintro e w' ⟨d',t',r',dp',c',x,had,rfl,hR,m1,hok,hno⟩;have st:=cutd_step hpre (fun l s np d' t' r' dp' x h=>climb_step hpre h hpre.refl) hR;have cl:=cutd_stays h2.good.calm (fun l s np d' t' r' dp' x h=>climb_stays h h2.good.calm) hR;obtain ⟨-,⟨rfl,-⟩ | ⟨rfl,g,-⟩⟩:=cut_good h2.good key hR
  ·exact ⟨m1,_,.inr ⟨rfl,⟨d',_,_,_,_,_,hno (by decide),h2.back st cl⟩⟩⟩
  ·exact ⟨m1,_,.inl ⟨rfl,⟨d',t',r',dp',c',K,hok rfl,h2.next g st (by omega)⟩⟩⟩
theorem keepF_run {w0 w:World} {B:Blk} {tb k:Nat} {es es0:Ents} (h:HandF w0 w B tb k es es0) (hk:k<=200) :
 Calls Tryz.prog 17 #[ptr tb] w (fun e w'=>Mod (tall tb B) w w'/\((e=.returned (.int .i64 0)/\HandF w0 w' B tb (k+1) es es)\/(e=.returned (.int .i64 60)/\HandF w0 w' B tb (k+1) es0 es0))):=by
 obtain ⟨d,t,r,dp,c,K,h1,h2⟩:=h;have hf:=h2.few;have hc:=h2.cnt hk;have h4:=h2.good.pre.pk.top;have h5:=h2.good.pre.nle;have hd:I64 dp:=by
  rcases h2.dp hk with rfl | ⟨m,rfl,hm⟩
  ·exact ⟨by omega,by omega⟩
  ·exact ⟨by omega,by omega⟩
 obtain ⟨ps,hb,-⟩:=tree_pages h2.good.tree;have ho:∀ x∈t.own,I64 x:=fun x hx=>by
  have h3:2<=x/\x<t.pool.high:=(hb.acct.own x hx).1;exact ⟨by omega,by omega⟩
 have hol:t.own.length<=100000:=by have:=hb.acct.cnt;omega
 refine (keep_any h1 (good_root h2.good) hd ⟨by omega,by omega⟩ hol ho).mono ?_;rintro e w' ⟨d',t',x,rfl,hC,m1,hok,hno⟩;rcases keep_some h2.good (by omega) (by have:=h2.ep;omega) (by have:=h2.n;omega) hC with ⟨rfl,st,cl⟩ | ⟨rfl,g,kp,g2,g3⟩
 ·exact ⟨m1,.inr ⟨rfl,⟨d',_,_,_,_,_,hno (by decide),h2.back st cl⟩⟩⟩
 ·have h6:=h2.ep;exact ⟨m1,.inl ⟨rfl,⟨d',t',r,dp,c,_,hok rfl,⟨g,⟨r,dp,c,kp⟩,by omega,by omega,by omega,by rw [g3];exact h2.n⟩⟩⟩⟩
theorem getF_run {w0 w:World} {B:Blk} {tb k:Nat} {es es0:Ents} (h:HandF w0 w B tb k es es0) (hk:k<=200) (key:Disk.Bs) :
 Calls Tryz.prog 29 #[ptr tb,strV key] w (fun e w'=>e=.returned (.tuple #[strV (valOf es key),.bool (hasOf (keysOf es) key),.int .i64 0])/\Below w.heap.size w w'):=by
 obtain ⟨d,t,r,dp,c,K,h1,h2⟩:=h;rcases h2.dp hk with rfl | ⟨m,rfl,hm⟩
 ·have hes:es=[]:=by
   rcases h2.good.tree with ⟨-,-,e,-⟩ | ⟨m,ps,e,-⟩
   ·exact e
   ·omega
  subst hes;refine (get_any h1 key (P:=NilP) (Q:=fun _=>False) (fun l s hp=>by have:=nilP_leaf hp;exact ⟨this.1,by omega⟩) (fun W hb=>way_nil (h1.quiet hb).box key)).mono ?_;rintro e w' (⟨l,s,⟨rfl,rfl⟩,rfl,bl⟩ | ⟨x,hq,_⟩)
  ·exact ⟨rfl,bl⟩
  ·exact hq.elim
 ·refine (get_any h1 key (P:=WayP d key r (m+1)) (Q:=WayQ d key r (m+1)) (fun l s hp=>by have:=wayP_leaf hp;exact ⟨this.1,by omega⟩) (fun W hb=>?_)).mono ?_
  ·obtain ⟨a,s⟩:=(h1.quiet hb).sto.has;exact way_full s (m:=m) (by omega) (h1.quiet hb).box key
  ·rintro e w' (⟨l,s,hp,rfl,bl⟩ | ⟨x,hq,_⟩)
   ·obtain ⟨e1,e2⟩:=get_good h2.good key hp;rw [e1,e2];exact ⟨rfl,bl⟩
   ·rcases h2.good.tree with ⟨h0,-⟩ | ⟨m',ps,h0,hT,hb⟩
    ·omega
    ·obtain rfl:m'=m:=by omega
     exact absurd hq (way_isT_ok hT)
theorem countF_run {w0 w:World} {B:Blk} {tb k:Nat} {es es0:Ents} (h:HandF w0 w B tb k es es0) :
 Calls Tryz.prog 15 #[ptr tb] w (fun e w'=>e=.returned (.int .i64 (es.length:Int))/\w'=w):=by
 obtain ⟨d,t,r,dp,c,K,h1,h2⟩:=h;refine (count_any h1.box).mono ?_;rintro e w' ⟨rfl,rfl⟩;rw [h2.good.cnt];exact ⟨rfl,rfl⟩
theorem newF_run (n:Nat) (h0:2<=n) (h1:n<=100) (w:World):Calls Tryz.prog 12 #[.int .i64 (n:Int)] w (fun e w'=>∃ B tb,e=.returned (ptr tb)/\HandF w w' B tb 0 [] []/\Below w.heap.size w w'):=by
 refine (new_any n h0 (by omega) w).mono ?_;rintro e w' ⟨B,tb,d1,rfl,H,sf,cm,hn⟩;refine ⟨B,tb,rfl,⟨d1,T0,0,0,0,0,H,⟨⟨sf.pre,cm,.inl ⟨rfl,rfl,rfl,book_zero⟩,rfl⟩,⟨0,0,0,⟨sf,cm,⟨[],?_,by simp,(fun x hx=>by cases hx),.inl ⟨rfl,rfl,rfl,rfl⟩⟩,rfl,rfl,⟨rfl,rfl,rfl⟩⟩⟩,Nat.le_refl _,Nat.le_refl _,by show (0+1) % 18446744073709551616<=2;omega,⟨by omega,by omega⟩⟩⟩,H.below (Mod.refl _ _)⟩;exact ⟨fun x hx=>(by cases hx),fun x hx=>(by cases hx),List.nodup_nil,rfl⟩
open Page (Pg Lay PgOk PgRows pgC pgV Enc IsDec BytesAt strV strB PRow less Lt Rises OwnP KeyOk)
open Pool (Po NAt PoAt La poC poV numV At takeP giveP backP Fresh PoolOk OwnI chunks layAll May)
theorem wpList_append2_eq {P:Program} {ops:Array Oper} {rest:List Oper} {o:Oper} {a:Act} {Q:Exit->Act->World->Prop} {w w':World} {v u v':Value} (hgd:o.guard=none) (s x:Operand) (t t':TypeId)
 (ho:o.op=.call {callee:=.builtin .append,args:=#[s,x],argTypes:=#[t,t']}) (hs:a.eval s=v) (hx:a.eval x=u) (hrun:(Builtin.append_ #[t,t'] o.type #[v,u]).run P w=.ok v' w')
 (h:wpList P ops Q rest (a.put o.dst v') w'):wpList P ops Q (o :: rest) a w:=by
 refine wpList_plain hgd fun K hK=>?_
 unfold Oper.wp;simp [execOp,ho,resolve,invoke,builtin,hs,hx,hrun,Result.andThen];exact hK _ _ h
theorem MapOn.weaken {w:World} {lo lo' mb:Nat} {es:Ents} (h:MapOn w lo mb es) (hl:lo'<=lo):MapOn w lo' mb es:=by
 obtain ⟨h0,A,c,h1,h2,h3,h4,h5⟩:=h;exact ⟨Nat.le_trans hl h0,A,c,h1,h2,h3,h4,fun x e=>⟨Nat.le_trans hl (h5 x e).1,(h5 x e).2⟩⟩
theorem mcopy_any {w:World} {lo mb:Nat} {es:Ents} (h:MapOn w lo mb es) (hl:es.length<=100000) :
 Calls Tryz.prog 18 #[ptr mb] w (fun e w'=>∃ nb,e=.returned (ptr nb)/\w.heap.size<=nb/\nb<w'.heap.size/\Below w.heap.size w w'/\MapOn w' w.heap.size nb es):=by
 obtain ⟨-,A,c,h1,h2,h3,h4,-⟩:=h;have b0:Below w.heap.size w (w.alloc (.cells #[] 36)):=Pool.below_box w _;obtain ⟨v1,W1,r1,o1,g1,e1⟩:=append_pairs (w.alloc (.cells #[] 36)) w.heap.size _ [] (own_empty w) A es.length c es rfl h3 (prow_below h2 b0) (by simp only [List.length_nil];omega) b0.size;have b1:Below w.heap.size w W1:=b0.grown g1 b0.size (fun k e=>e1 k e);rw [List.nil_append] at o1;obtain ⟨A2,c2,rfl,p1,p2,p3,p4⟩:=Page.own_cap o1
 have bx:=Pool.below_box W1 (.cells #[.slice A2 es.length c2] 29);have ax:=at_new W1 #[.slice A2 es.length c2] 29;have p1':=prow_below p1 bx;have FIN:=hid (show w.heap.size<=W1.heap.size/\W1.heap.size<(W1.alloc (.cells #[.slice A2 es.length c2] 29)).heap.size/\Below w.heap.size w (W1.alloc (.cells #[.slice A2 es.length c2] 29))/\MapOn (W1.alloc (.cells #[.slice A2 es.length c2] 29)) w.heap.size W1.heap.size es from
  ⟨b1.size,ax.1,b1.trans (bx.mono b1.size),b1.size,A2,c2,ax,p1',p3,p4,fun x e=>⟨p2 x e,by
   have:=World.ownsRow.lt o1 x.block (by rw [e];rfl);omega⟩⟩)
 have R1:=hid r1;have c0:(w.alloc (.cells #[] 36)).cell? ⟨mb,0,none⟩=some (.slice A es.length c):=(b0.cell (p:=⟨mb,0,none⟩) h1.1).trans (h1.2.2 0 _ rfl);obtain ⟨N,hN⟩:∃ N,es.length=N:=⟨_,rfl⟩;rw [hN] at R1 c0 FIN;clear h1 h2 h3 h4 b0 r1 o1 g1 e1 b1 p1 p2 p3 p4 bx ax p1' hN;go_enter Tryz.func18,Tryz.ntmps18
 go_wp2_with (first | ((with_reducible refine wpList_append2_eq rfl (.tmp 3) (.tmp 7) _ _ rfl ?_ ?_ R1.out ?_);(next=>rfl);(next=>rfl)))
 go_ret
 exact ⟨_,rfl,FIN.out⟩
structure MapFar (w:World) (lo kb:Nat) (es:Ents) (X:Nat):Prop where
 on:MapOn w lo kb es
 ne:kb≠X
 off:es≠[]->∀ A c,At w kb #[.slice A es.length c]->∀ x,A=some x->x.block≠X
theorem at_one {w:World} {b:Nat} {u v:Value} (h:At w b #[u]) (k:At w b #[v]):u=v:=by
 have h1:=h.2.2 0 _ rfl;have h2:=k.2.2 0 _ rfl;rw [h1] at h2;exact Option.some.inj h2
theorem MapFar.mod {w w':World} {lo kb X:Nat} {es:Ents} (h:MapFar w lo kb es X) {S:List Nat} (m:Mod S w w') (hS:∀ k∈S,k<lo\/k=X):MapFar w' lo kb es X:=by
 obtain ⟨⟨hl,A,c,h1,h2,h3,h4,h5⟩,ne,off⟩:=h;have nk:kb∉S:=fun e=>by rcases hS _ e with g | g <;> omega
 have h1':=at_mod h1 m nk;refine ⟨⟨hl,A,c,h1',fun hne=>?_,h3,h4,h5⟩,ne,fun hne A' c' hA x e=>?_⟩
 ·obtain ⟨b,o,e,hlt,hc⟩:=h2 hne;have nb:b∉S:=fun e'=>by
   have g1:=(h5 _ e).1;have g2:=off hne A c h1 _ e;simp only at g1 g2;rcases hS _ e' with g | g <;> omega
  exact ⟨b,o,e,Nat.lt_of_lt_of_le hlt m.size,fun j hj=>⟨(m.cell (p:=⟨b,o+j*2,none⟩) hlt nb).trans (hc j hj).1,(m.cell (p:=⟨b,o+j*2+1,none⟩) hlt nb).trans (hc j hj).2⟩⟩
 ·have:=at_one h1' hA;have e2:A=A':=by cases this;rfl
  exact off hne A c h1 x (e2 ▸ e)
structure FullSt (w1 w:World) (T:List Nat) (tb lo mb kb k:Nat) (es es0:Ents):Prop where
 hand:∃ B,tall tb B=T/\HandF w1 w B tb k es es0/\mb∈B.xs
 map:MapOn w lo mb es
 far:MapFar w lo kb es0 mb
 low:∀ x∈T,x<lo
 new:w1.heap.size<=lo
theorem FullSt.quiet {w1 w w':World} {T:List Nat} {tb lo mb kb k:Nat} {es es0:Ents} (h:FullSt w1 w T tb lo mb kb k es es0) (b:Below w.heap.size w w'):FullSt w1 w' T tb lo mb kb k es es0:=by
 obtain ⟨⟨B,e,h1,h2⟩,h3,h4,h5,h6⟩:=h;exact ⟨⟨B,e,h1.quiet b,h2⟩,h3.below b,h4.mod (S:=[]) (Mod.of_below [] b) (fun k hk=>by cases hk),h5,h6⟩
theorem FullSt.more {w1 w:World} {T:List Nat} {tb lo mb kb k m:Nat} {es es0:Ents} (h:FullSt w1 w T tb lo mb kb k es es0) (hm:k<=m):FullSt w1 w T tb lo mb kb m es es0:=by
 obtain ⟨⟨B,e,h1,h2⟩,h3,h4,h5,h6⟩:=h;exact ⟨⟨B,e,h1.more hm,h2⟩,h3,h4,h5,h6⟩
theorem FullSt.below {w1 w:World} {T:List Nat} {tb lo mb kb k:Nat} {es es0:Ents} (h:FullSt w1 w T tb lo mb kb k es es0):Below w1.heap.size w1 w:=by
 obtain ⟨⟨B,e,h1,h2⟩,-⟩:=h;exact h1.lt.1
theorem FullSt.lt {w1 w:World} {T:List Nat} {tb lo mb kb k:Nat} {es es0:Ents} (h:FullSt w1 w T tb lo mb kb k es es0):∀ x∈mb :: T,x<w.heap.size:=by
 obtain ⟨⟨B,e,h1,h2⟩,h3,-⟩:=h;intro x hx;rcases List.mem_cons.1 hx with rfl | hx
 ·obtain ⟨A,c,hA,-⟩:=h3.row;exact hA.1
 ·rw [<- e] at hx;exact h1.lt.2 x hx
theorem FullSt.few {w1 w:World} {T:List Nat} {tb lo mb kb k:Nat} {es es0:Ents} (h:FullSt w1 w T tb lo mb kb k es es0):es.length<=k/\es0.length<=k:=by
 obtain ⟨⟨B,e,h1,h2⟩,-⟩:=h;exact h1.few
theorem FullSt.step {w1 w w2 w3:World} {T:List Nat} {tb lo mb kb k m:Nat} {es es0 es':Ents} {B:Blk} (h:FullSt w1 w T tb lo mb kb k es es0) (hT:tall tb B=T) (hx:mb∈B.xs) (h2:HandF w1 w2 B tb m es' es0) (m2:Mod T w w2) (h3:MapOn w3 lo mb es') (m3:Mod [mb] w2 w3):FullSt w1 w3 T tb lo mb kb m es' es0:=by
 have hm:mb∉tall tb B:=fun e=>by rw [hT] at e;have:=h.low _ e;have:=h.map.low;omega
 exact ⟨⟨B,hT,h2.touch hx hm (Nat.le_trans h.new h.map.low) m3,hx⟩,h3,(h.far.mod m2 (fun k hk=>.inl (h.low k hk))).mod m3 (fun k hk=>by rw [List.mem_singleton] at hk;exact .inr hk),h.low,h.new⟩
theorem FullSt.back {w1 w w':World} {T:List Nat} {tb lo mb kb m nb:Nat} {es0:Ents} {B:Blk} (hT:tall tb B=T) (h2:HandF w1 w B tb m es0 es0) (far:MapFar w lo kb es0 mb) (low:∀ x∈T,x<lo) (new:w1.heap.size<=lo) (hlo:lo<=w.heap.size)
 (b:Below w.heap.size w w') (n1:w.heap.size<=nb) (n2:nb<w'.heap.size) (hm:MapOn w' w.heap.size nb es0):FullSt w1 w' T tb lo nb kb m es0 es0:=by
 have f2:=far.mod (S:=[]) (Mod.of_below [] b) (fun k hk=>by cases hk);obtain ⟨⟨hl,A,c,h1,h2',h3,h4,h5⟩,ne,off⟩:=far;have hk:=h1.1;refine ⟨⟨withX B nb,hT,h2.withx b n1 n2,List.mem_cons_self ..⟩,hm.weaken hlo,⟨f2.on,by omega,fun hne A' c' hA x e=>?_⟩,low,new⟩;obtain ⟨b',o,e',hlt,-⟩:=h2' hne;have:=at_one (h1.below b h1.1) hA;have e2:A=A':=by cases this;rfl
 rw [<- e2,e'] at e;cases e;show b'≠nb;omega
theorem FullSt.keep {w1 w w':World} {T:List Nat} {tb lo mb kb m k nb:Nat} {es es0:Ents} {B:Blk} (h:FullSt w1 w T tb lo mb kb k es es0) (hT:tall tb B=T) (hx:mb∈B.xs) {w2:World} (h2:HandF w1 w2 B tb m es es) (m2:Mod T w w2) (hlo:lo<=w2.heap.size)
 (b:Below w2.heap.size w2 w') (n1:w2.heap.size<=nb) (hm:MapOn w' w2.heap.size nb es):FullSt w1 w' T tb lo mb nb m es es:=by
 have hmb:=(h.map.mod m2 h.low);obtain ⟨A0,c0,hA0,-⟩:=hmb.row;have hlt:=hA0.1;refine ⟨⟨B,hT,h2.quiet b,hx⟩,hmb.below b,⟨hm.weaken hlo,by omega,fun hne A c hA x e=>?_⟩,h.low,h.new⟩;obtain ⟨A1,c1,g1,-,-,-,g5⟩:=hm.row;have:=at_one g1 hA;have e2:A1=A:=by cases this;rfl
 have:=(g5 x (e2 ▸ e)).1;omega
theorem didF_get {w1 w:World} {T:List Nat} {tb lo mb kb k:Nat} {es es0:Ents} (H:FullSt w1 w T tb lo mb kb k es es0) (hk:k<=200) (key:Disk.Bs) :
 Calls Tryz.prog 14 #[ptr tb,ptr mb,.agg #[.int .i64 3,strV key,.string ⟨#[]⟩]] w (fun e w'=>e=.returned (.bool true)/\FullSt w1 w' T tb lo mb kb k es es0):=by
 have b1:=Pool.below_box w (.cells #[.int .i64 3,strV key,.string ⟨#[]⟩] 32);have a1:=at_new w #[.int .i64 3,strV key,.string ⟨#[]⟩] 32;obtain ⟨W1,hW1⟩:∃ W1,w.alloc (.cells #[.int .i64 3,strV key,.string ⟨#[]⟩] 32)=W1:=⟨_,rfl⟩;rw [hW1] at b1 a1;have A1:=hid a1;have H1:=hid (H.quiet b1);obtain ⟨⟨B,-,hh,-⟩,-⟩:=H1.out;have cS:=getF_run hh hk key;have cM:=hid (fun W (h:MapOn W lo mb es)=>mget_any h key (by have:=H1.out.few;omega))
 obtain ⟨hb,hhb⟩:∃ b,hasOf (keysOf es) key=b:=⟨_,rfl⟩;obtain ⟨V,hV⟩:∃ V,valOf es key=V:=⟨_,rfl⟩;rw [hhb,hV] at cS cM;have hbb:(hb==hb)=true:=by simp
 obtain ⟨Z,hZ⟩:∃ Z,strB V=Z:=⟨_,rfl⟩;rw [show strV V=.string Z by rw [<- hZ]] at cS cM;have hzz:(Z.toList==Z.toList)=true:=by simp
 have KB:=hid (show ∀ W',Below W1.heap.size W1 W'->W'.cell? ⟨w.heap.size,1,none⟩=some (strV key) from fun W' b=>(A1.out.below b A1.out.1).2.2 1 _ rfl);have c0:W1.cell? ⟨w.heap.size,0,none⟩=some (.int .i64 3):=A1.out.2.2 0 _ rfl;have c1:=KB.out W1 (Below.refl _ _);obtain ⟨wb,hwb⟩:∃ wb,w.heap.size=wb:=⟨_,rfl⟩;rw [hwb] at c0 c1 KB;obtain ⟨kv,hkv⟩:∃ kv,strV key=kv:=⟨_,rfl⟩;rw [hkv] at cS cM KB c1 hW1 ⊢
 clear hkv a1 b1 A1 H hhb hV hZ hh;go_enter Tryz.func14,Tryz.ntmps14
 go_wp2_with fail
 refine cS.mono ?_;rintro e w2 ⟨rfl,b2⟩;have H2:=hid (H1.out.quiet b2);have cT:=cM.out w2 H2.out.map;have c1:=KB.out _ b2;clear b2 cS cM c0;go_wp2_with fail
 refine cT.mono ?_;rintro e w3 ⟨rfl,b3⟩;have FIN:=hid (H2.out.quiet b3);clear b3 cT c1;go_wp2_with fail
 go_ret
 exact ⟨rfl,FIN.out⟩
open Page (Pg Lay PgOk PgRows pgC pgV Enc IsDec BytesAt strV strB PRow SRow IRow less Rises Lt)
theorem spread_calm {d d':St} {t t' t2:T} {b:Pg} {n m x:Int} {ks:List Disk.Bs} {ns:List Int} (h:SpreadR d t b [n] d' t' ks ns x) (hf:fillP b<=mostP b) (hp:placeT t d.n n=(t2,m,0)) (hc:Store.Calm d) (hfine:Page.Fine b) (hk:b.kind≠4) (h0:2<=m) (h1:m<d.n) (h2:d.n<=4096) :
 x=0/\ks=[]/\ns=[m]/\t'=t2/\Store.Calm d'/\d'.n=d.n/\LayR d t n b d' t' m 0/\∃ l,Enc m b l/\d'.get m=l:=by
 have e1:partsP b=[b]:=if_neg (by omega);have e2:partsK b=[]:=if_neg (by omega);obtain ⟨t1,os1,x1,hD,hR⟩:=h;rw [e1] at hD hR;have hh:t1=t/\os1=[n]/\x1=0:=by
  cases hD with
  | done _=>exact ⟨rfl,rfl,rfl⟩
  | fail h _ _=>simp at h
  | step h _ _=>simp at h
 obtain ⟨rfl,rfl,rfl⟩:=hh;rcases hR with ⟨h,_⟩ | ⟨_,hL,hks⟩
 ·exact absurd rfl h
 cases hL with
 | done h=>simp at h
 | fail hb hl hx =>
  simp only [List.getElem?_cons_zero,Option.some.injEq] at hb;subst hb;have:=lay_calm hl hp hc hfine hk h0 h1 h2;exact absurd this.2.1 hx
 | step hb hl hr =>
  simp only [List.getElem?_cons_zero,Option.some.injEq] at hb;subst hb;have hl':=hl;obtain ⟨rfl,-,rfl,c1,c2,c3⟩:=lay_calm hl hp hc hfine hk h0 h1 h2;cases hr with
  | done _=>exact ⟨rfl,by rw [hks,if_pos rfl,e2],rfl,rfl,c1,c2,hl',c3⟩
  | fail hb _ _=>simp at hb
  | step hb _ _=>simp at hb
theorem crel_calm {d d':St} {t t' t2:T} {b:Pg} {n N r dp m r' dp' x:Int} (h:CRel n N r dp b d t d' t' r' dp' x) (hb:fillP b≠0) (hf:fillP b<=mostP b) (hp:placeT t d.n n=(t2,m,0)) (hc:Store.Calm d) (hfine:Page.Fine b) (hk:b.kind≠4) (h0:2<=m) (h1:m<d.n) (h2:d.n<=4096) :
 x=0/\r'=m/\dp'=N/\t'=t2/\Store.Calm d'/\d'.n=d.n/\LayR d t n b d' t' m 0/\∃ l,Enc m b l/\d'.get m=l:=by
 rcases h with ⟨e,_⟩ | ⟨_,d1,t1,ks,ns,x1,hR,hh⟩
 ·exact absurd e hb
 obtain ⟨rfl,rfl,rfl,rfl,c1,c2,c3,c4⟩:=spread_calm hR hf hp hc hfine hk h0 h1 h2;rcases hh with ⟨e,_⟩ | ⟨_,_,rfl,rfl,rfl,rfl,rfl⟩ | ⟨_,e,_⟩
 ·exact absurd rfl e
 ·exact ⟨rfl,rfl,rfl,rfl,c1,c2,c3,c4⟩
 ·exact absurd rfl e
theorem down_nil {d:St} {key:Disk.Bs} {r a:Int} {l:List Stp} (h:Down d key r l a) (hl:l.length=0):a=r/\l=[]:=by
 cases h with
 | nil=>exact ⟨rfl,rfl⟩
 | snoc=>simp at hl
theorem leaf_way {d:St} {key:Disk.Bs} {r:Int} {l:List Stp} {s:Stp} {b:Pg} (h:WayP d key r 1 l s) (hb:IsDec r (d.readB r) b):s.p=b/\s.at_=r/\l=[]:=by
 obtain ⟨hd,hl,hp,-⟩:=h;obtain ⟨e,rfl⟩:=down_nil hd (by omega);rw [e] at hp;exact ⟨Page.dec_fun hp.2.1 hb,e,rfl⟩
theorem leaf_noQ {d:St} {key:Disk.Bs} {r x:Int} {b:Pg} (h:WayQ d key r 1 x) (hr:d.readE r=0) (hb:IsDec r (d.readB r) b) (hk:b.kind=1):False:=by
 obtain ⟨l,a,hd,hl,hn,-⟩:=h;obtain ⟨rfl,rfl⟩:=down_nil hd (by omega);have:=hn hr b hb;simp at this;exact this hk
abbrev lf:Pg:=leafOf [([97],[49])]
theorem fine_lf:Page.Fine lf:=by
 refine (Page.fine1 rfl).2 ⟨⟨by simp,fun x hx=>?_,fun s hs=>?_,fun j hj=>?_⟩,rfl,rfl,rfl,rfl,rfl,rfl,rfl,rfl,rfl⟩
 ·simp only [List.mem_singleton] at hx;subst hx;show 1<=100;omega
 ·simp only [List.map_cons,List.map_nil,List.mem_singleton] at hs;subst hs;exact ⟨by decide,by decide⟩
 ·simp at hj
abbrev U2:T:={sup:=T0.sup,own:=[],base:={high:=2},pool:={high:=3},fresh:=fup (fun _=>false) 2 true}
theorem place_u {N:Int} (h:2<N):placeT T0 N 0=(U2,2,0):=by
 have e:takeP T0.pool N=({high:=3},2,0):=by
  show (if N<=2 then _ else _)=_;rw [if_neg (by omega)];rfl
 have e2:takeT T0 N=({T0 with pool:={high:=3}},2,0):=by rw [takeT,e];rfl
 rw [placeT,e2]
 rfl
abbrev U3:T:=newT U2 (leadP (superP U2 2 1 1) U2 []) []
theorem super_u:Page.SuperOk (superP U2 2 1 1):=⟨.inr ⟨by show (2:Int)<=2;omega,by show (2:Int)<=4095;omega⟩,.inl rfl,⟨by show (2:Int)<=3;omega,by show (3:Int)<=4096;omega⟩,⟨by show (0:Int)<=1;omega,by show (1:Int)<=20;omega⟩,⟨fun e=>absurd e (by decide),fun e=>absurd e (by decide)⟩,⟨by show (0:Int)<=1;omega,by show (1:Int)<=2147483647;omega⟩,⟨fun e=>absurd e (by decide),fun e=>absurd e (by decide)⟩⟩
abbrev U4:T:={U3 with pool:={high:=3,limbo:=[2]}}
theorem drop_u:dropT U3 2=(U4,0):=by
 have e3:giveP {high:=3} 2=({high:=3,limbo:=[2]},0):=by
  rw [giveP,if_pos ⟨⟨by omega,by show (2:Int)<3;omega⟩,by simp,by simp⟩];rfl
 rw [dropT,if_neg (by decide),giveT];show ({U3 with pool:=(giveP {high:=3} 2).1},(giveP {high:=3} 2).2)=_;rw [e3]
theorem set_u {d d':St} {t':T} {r' dp' c' x:Int} (hc:Store.Calm d) (hn:d.n=32) (h:ChangeD NilP (fun _=>False) (fun _ s np=>CRel s.at_ 1 0 0 (leafOf np) d T0) (fun l=>setP l [97] [49]) d T0 0 0 0 d' t' r' dp' c' x) :
 x=0/\r'=2/\dp'=1/\c'=1/\t'=U2/\Store.Calm d'/\d'.n=32/\LayR d T0 0 lf d' t' 2 0/\∃ l,Enc 2 lf l/\d'.get 2=l:=by
 rcases h with ⟨l,s,⟨rfl,rfl⟩,h,_⟩ | ⟨l,s,⟨rfl,rfl⟩,_,h,rfl⟩ | ⟨h,_⟩
 ·exact absurd h (by decide)
 ·have e:setP ([]:List (Disk.Bs×Disk.Bs)) [97] [49]=[([97],[49])]:=by decide
  have h':CRel 0 1 0 0 lf d T0 d' t' r' dp' x:=by
   have h2:=h;simp only at h2;rw [e] at h2;exact h2
  obtain ⟨rfl,rfl,rfl,rfl,g1,g2,g3,g4⟩:=crel_calm h' (by decide) (by decide) (place_u (by omega)) hc fine_lf (by decide) (by omega) (by omega) (by omega);exact ⟨rfl,rfl,rfl,by rw [if_pos rfl];simp only;rw [e];rfl,rfl,g1,g2.trans hn,g3,g4⟩
 ·exact h.elim
theorem cut_u {d d':St} {t':T} {r' dp' c' x:Int} {had:Bool} (hr:d.readE 2=0) (hb:IsDec 2 (d.readB 2) lf) (h:CutD (WayP d [97] 2 1) (WayQ d [97] 2 1) (fun _ s np=>CRel s.at_ 1 2 1 (leafOf np) d U3) [97] d U3 2 1 1 d' t' r' dp' c' x had) :
 x=0/\r'=0/\dp'=0/\c'=0/\had=true/\t'=U4/\d'=d:=by
 rcases h with ⟨l,s,hp,h,_⟩ | ⟨l,s,hp,_,h,rfl,rfl⟩ | ⟨h,_⟩
 ·rw [(leaf_way hp hb).1] at h;exact absurd h (by decide)
 ·obtain ⟨e1,e2,-⟩:=leaf_way hp hb;have e:cutP [(([97]:Disk.Bs),([49]:Disk.Bs))] [97]=[]:=by decide
  have h':CRel 2 1 2 1 (leafOf []) d U3 d' t' r' dp' x:=by
   have h2:=h;rw [e1,e2,show lf.pairs=[([97],[49])] from rfl,e] at h2;exact h2
  rcases h' with ⟨_,rfl,rfl,rfl,⟨_,rfl,rfl⟩ | ⟨hx,_⟩⟩ | ⟨h0,_⟩
  ·rw [drop_u,e1];exact ⟨rfl,rfl,rfl,rfl,by decide,rfl,rfl⟩
  ·rw [drop_u] at hx;exact absurd rfl hx
  ·exact absurd rfl h0
 ·exact (leaf_noQ h hr hb rfl).elim
theorem cut_v {d d':St} {t':T} {r' dp' c' x:Int} {had:Bool} (h:CutD NilP (fun _=>False) (fun _ s np=>CRel s.at_ 1 0 0 (leafOf np) d U4) [97] d U4 0 0 0 d' t' r' dp' c' x had) :
 x=0/\r'=0/\dp'=0/\c'=0/\had=false:=by
 rcases h with ⟨l,s,⟨rfl,rfl⟩,_,rfl,rfl,rfl,rfl,rfl,rfl,rfl⟩ | ⟨l,s,⟨rfl,rfl⟩,h,_⟩ | ⟨h,_⟩
 ·exact ⟨rfl,rfl,rfl,rfl,by decide⟩
 ·exact absurd (by decide) h
 ·exact h.elim
theorem i64_1:I64 1:=⟨by omega,by omega⟩
theorem i64_2:I64 2:=⟨by omega,by omega⟩
theorem way_leaf {w0 w:World} {B:Blk} {tb:Nat} {d:St} {t:T} {r c:Int} (h:TrOn w0 w B tb d t r 1 c) (key:Disk.Bs) (W:World) (hb:Below w.heap.size w W) :
 Calls Tryz.prog 58 #[ptr tb,strV key] W (WayOk (WayP d key r 1) (WayQ d key r 1) W):=by
 obtain ⟨a,s⟩:=(h.quiet hb).sto.has;exact way_full s (m:=0) (by omega) (h.quiet hb).box key
theorem get_u {w0 w:World} {B:Blk} {tb:Nat} {d:St} {t:T} {c:Int} (h:TrOn w0 w B tb d t 2 1 c) (hr:d.readE 2=0) (hb:IsDec 2 (d.readB 2) lf) (key v:Disk.Bs) (b:Bool) (hv:valOf lf.pairs key=v) (hh:hasOf (keysOf lf.pairs) key=b) :
 Calls Tryz.prog 29 #[ptr tb,strV key] w (fun e w'=>e=.returned (.tuple #[strV v,.bool b,numV 0])/\Below w.heap.size w w'):=by
 refine (get_any h key (P:=WayP d key 2 1) (Q:=WayQ d key 2 1) (fun l s hp=>by have:=wayP_leaf hp;exact ⟨this.1,by omega⟩) (way_leaf h key)).mono ?_;rintro e w' (⟨l,s,hp,rfl,bl⟩ | ⟨x,hq,_⟩)
 ·rw [(leaf_way hp hb).1,hv,hh];exact ⟨rfl,bl⟩
 ·exact (leaf_noQ hq hr hb rfl).elim
theorem awake_any (w:World):Calls Tryz.prog 11 #[] w (fun e w'=>e=.returned (.bool true)/\Below w.heap.size w w'):=by
 have cN:Calls Tryz.prog 12 #[.int .i64 32] w _:=new_any 32 (by omega) (by omega) w;go_enter Tryz.func11,Tryz.ntmps11
 go_wp2_with fail
 refine cN.mono ?_;rintro e w1 ⟨B,tb,d1,rfl,H1,sf,cm,hn⟩;have H1':=hid H1;have SF:=hid sf;have CM:=hid cm;have HN:=hid (show d1.n=32 from hn);have MEM:=hid H1.mem;have cS:Calls Tryz.prog 24 #[ptr tb,.string {data:=#[97]},.string {data:=#[49]}] w1 _:=set_first H1 (by omega) [97] [49] (by decide) (by decide) (by decide);clear H1 sf cm hn cN;go_wp2_with fail
 refine cS.mono ?_;rintro e w2 ⟨d2,t2,r2,dp2,c2,x2,rfl,hR,m2,hok,-⟩;obtain ⟨rfl,rfl,rfl,rfl,rfl,cm2,n2,hl,la,hla,hga⟩:=set_u CM.out HN.out hR;have H2:=hid (hok rfl);have ST:=(Pre.refl SF.out.pre).lay SF.out.pre hl;have P2:=hid (ST.pre SF.out.pre);have CM2:=hid cm2;have N2:=hid n2;have LA:=hid (show Enc 2 lf la/\d2.get 2=la from ⟨hla,hga⟩);have rd:=on_read cm2.1 (x:=2) (by omega) (by rw [n2];omega)
 have RD:=hid (show d2.readE 2=0/\IsDec 2 (d2.readB 2) lf from ⟨rd.1,by rw [rd.2,hga];exact Page.dec_of_enc hla (by show 0<_;omega)⟩);clear hR m2 hok hl hla hga rd cm2 n2 ST SF CM HN H1' cS;have cG:Calls Tryz.prog 29 #[ptr tb,.string {data:=#[97]}] w2 _:=get_u H2.out RD.out.1 RD.out.2 [97] [49] true (by decide) (by decide);go_wp2_with fail
 refine cG.mono ?_;rintro e w3 ⟨rfl,b3⟩;have H3:=hid (H2.out.quiet b3);have cH:Calls Tryz.prog 29 #[ptr tb,.string {data:=#[98]}] w3 _:=get_u H3.out RD.out.1 RD.out.2 [98] [] false (by decide) (by decide);clear b3 cG H2;go_wp2_with fail
 refine cH.mono ?_;rintro e w4 ⟨rfl,b4⟩;have H4:=hid (H3.out.quiet b4);have cD:=depth_any H4.out.box;have cC:=count_any H4.out.box;have cR:=root_any H4.out.box;clear b4 cH H3;go_wp2_with fail
 refine cD.mono ?_;rintro e w' ⟨rfl,rfl⟩;clear cD;go_wp2_with fail
 refine cC.mono ?_;rintro e w' ⟨rfl,rfl⟩;clear cC;go_wp2_with fail
 refine cR.mono ?_;rintro e w' ⟨rfl,rfl⟩;clear cR;have cB:Calls Tryz.prog 24 #[ptr tb,.string {data:=#[]},.string {data:=#[]}] w4 _:=set_bad [] [] (.inl (by decide));go_wp2_with fail
 refine cB.mono ?_;rintro e w5 ⟨rfl,b5⟩;have H5:=hid (H4.out.quiet b5);have cK:=keep_any H5.out i64_2 i64_1 i64_1 (by show 0<=100000;omega) (fun x hx=>by cases hx);clear b5 cB H4;go_wp2_with fail
 refine cK.mono ?_;rintro e w6 ⟨d3,t3,x,rfl,hc,-,hok,-⟩;obtain ⟨rfl,rfl⟩:=commit_few hc CM2.out (by rw [N2.out];omega) rfl rfl super_u;rcases commit_ends P2.out (by show 1+1<_;omega) hc with ⟨hx,-⟩ | ⟨hx,-⟩ | ⟨-,md⟩
 ·exact absurd rfl hx
 ·exact absurd rfl hx
 have H6:=hid (hok rfl);have hlive:Live U3.base 2:=⟨by omega,by show (2:Int)<3;omega,by show (2:Int)∉layAll [] [];decide⟩;have hget:d3.get 2=la:=by
  rw [md.safe.get (.inr (.inr hlive)),md.fresh 2 rfl];exact LA.out.2
 have hcm:=md.calm CM2.out;have hn3:=md.n.trans N2.out;have rd:=on_read hcm.1 (x:=2) (by omega) (by rw [hn3];omega);have RD3:=hid (show d3.readE 2=0/\IsDec 2 (d3.readB 2) lf from ⟨rd.1,by rw [rd.2,hget];exact Page.dec_of_enc LA.out.1 (by show 0<_;omega)⟩);have cU:Calls Tryz.prog 26 #[ptr tb,.string {data:=#[97]}] w6 (DoneC (CutD (WayP d3 [97] 2 1) (WayQ d3 [97] 2 1) (fun _ s np=>CRel s.at_ 1 2 1 (leafOf np) d3 U3) [97] d3 U3 2 1 1) w B tb w6):=cut_last H6.out i64_2 (by omega) [97]
 clear hc hok md hlive hget hcm hn3 rd cK H5 P2 CM2 N2 LA RD;go_wp2_with fail
 refine cU.mono ?_;rintro e w7 ⟨d4,t4,r4,dp4,c4,x,had,rfl,hR,-,hok,-⟩;obtain ⟨rfl,rfl,rfl,rfl,rfl,rfl,rfl⟩:=cut_u RD3.out.1 RD3.out.2 hR;have H7:=hid (hok rfl);have cV:Calls Tryz.prog 26 #[ptr tb,.string {data:=#[97]}] w7 (DoneC (CutD NilP (fun _=>False) (fun _ s np=>CRel s.at_ 1 0 0 (leafOf np) d4 U4) [97] d4 U4 0 0 0) w B tb w7):=cut_none H7.out (by omega) [97];have hb1:(true&&decide ((0:Int)=0))=true:=by decide
 rw [hb1];clear hR hok cU H6 RD3 hb1;go_wp2_with fail
 refine cV.mono ?_;rintro e w8 ⟨d5,t5,r5,dp5,c5,x,had,rfl,hR,-,hok,-⟩;obtain ⟨rfl,rfl,rfl,rfl,rfl⟩:=cut_v hR;have H8:=hok rfl;have cD:=depth_any H8.box;have cC:=count_any H8.box;have cT:=store_any H8.box;have FIN:=hid (H8.below (Mod.refl _ _));have hb2:(false&&decide ((0:Int)=0))=false:=by decide
 rw [hb2];have hs:(strB [49]).toList=[49]:=Page.strB_list _;clear hR hok cV H7 hb2 H8;go_wp2_with fail
 refine cD.mono ?_;rintro e w' ⟨rfl,rfl⟩;clear cD;go_wp2_with fail
 refine cC.mono ?_;rintro e w' ⟨rfl,rfl⟩;clear cC;go_wp2_with fail
 refine cT.mono ?_;rintro e w' ⟨rfl,rfl⟩;clear cT;go_wp2_with fail
 go_ret
 exact ⟨rfl,FIN.out⟩
open Page (Pg Lay PgOk PgRows pgC pgV strV strB)
open Pool (numV At)
theorem own:ownKnob Tryz.prog.godebug=none:=by kernel_rfl
open Go.ChangeShapes Go.WideShapes Go.ChangeAt Go.WideMaps Go.WideElems Go.RowKit Go.Deep Gen
open Page
structure CallT where
 kind:Int
 key:Disk.Bs
 val:Disk.Bs
abbrev callT (x:CallT):Array Value:=#[.int .i64 x.kind,strV x.key,strV x.val]
def Script (W:World) (A:Option Addr) (l:List CallT):Prop:=l≠[]->∃ b off,A=some ⟨b,off,none⟩/\b<W.heap.size/\∀ j (h:j<l.length),W.rangeAt b (off+j*3) (callT l[j]).toList
theorem cells_tcall:Tryz.prog.cellsOf 32=3:=by kernel_rfl
theorem size_tcall:(Tryz.prog.info? 32).map (·.size)=some 3:=by kernel_rfl
theorem load_callT {w:World} {b o:Nat} {x:CallT} (h:w.rangeAt b o (callT x).toList):(Instr.loadAt 32 (.pointer (some ⟨b,o,none⟩))).run Tryz.prog w=.ok (.agg (callT x)) w:=by
 have:=run_loadAt_mid (P:=Tryz.prog) w b o 32 (callT x).toList _ h Tryz.underlying32 rfl (by simpa using size_tcall)
 simpa using this
section
variable {H:Type} {enc:TypeId×Value->H} {W:World} {fuel:Nat} {x:DataW H×List MemPlace}
theorem open_tcall {cs':List Value} (hf:DataW.trod enc Tryz.prog W 0 (fun _=>true) true fuel 32 cs'=some x):∃ c:CallT,cs'=(callT c).toList:=by
 obtain ⟨xs,n,_,_,hlen,hxl,hg⟩:=DataW.trod_struct Tryz.underlying32 hf;rw [cells_tcall] at hlen;have h0:=hg 0 _ rfl;have h1:=hg 1 _ rfl;have h2:=hg 2 _ rfl
 match cs',hlen,xs,hxl with
 | [v0,v1,v2],_,[y0,y1,y2],_ =>
  simp only [List.getElem?_cons_succ,List.getElem?_cons_zero] at h0 h1 h2;obtain ⟨k0,e0,_,w0⟩:=DataW.trod_int Tryz.underlying3 h0;obtain ⟨s1,e1⟩:=open_str1 h1;obtain ⟨s2,e2⟩:=open_str1 h2;refine ⟨⟨k0,s1,s2⟩,?_⟩;rw [(List.cons.inj (show [v0]=[Value.int .i64 k0] from e0)).1,(List.cons.inj e1).1,(List.cons.inj e2).1]
end
theorem open_script {H:Type} {enc:TypeId×Value->H} {W:World} {base:Nat} {v:Value} {d:DataW H} {ps:List MemPlace} (hval:Value.okWide Tryz.prog W .any base 23 v)
 (h:DataW.Trod enc Tryz.prog W 0 (fun _=>true) true 23 v d ps):∃ (A:Option Addr) (n c:Nat) (l:List CallT),v=.slice A n c/\l.length=n/\n<=c/\c<=maxLen/\Script W A l:=by
 obtain ⟨a0,len,cap,rfl⟩:=okWide_slice Tryz.underlying23 hval;obtain ⟨fuel,hf⟩:=h;rcases open_slice Tryz.underlying23 hf with ⟨hcs,_⟩ | ⟨a,len',cap',m,n,D,Pl,hcs,_,hl,hm,hmm,_,hi⟩
 ·simp [Value.cells] at hcs;obtain ⟨rfl,rfl,rfl⟩:=hcs;exact ⟨none,0,0,[],rfl,rfl,Nat.le_refl _,Nat.zero_le _,fun h=>absurd rfl h⟩
 ·simp [Value.cells] at hcs;obtain ⟨rfl,rfl,rfl⟩:=hcs;have hmc:m=cap:=by simpa using hmm
  subst hmc;obtain ⟨l,hll,hp⟩:=list_of (fun j c=>W.cells? 0 (a.add (j*3)) 3=some (callT c).toList) len (fun j hj=>by
   obtain ⟨cs',hc,ht⟩:=hi j (by omega);rw [cells_tcall] at hc;obtain ⟨c,rfl⟩:=open_tcall ht;exact ⟨c,hc⟩)
  refine ⟨some a,len,m,l,rfl,hll,hl,hm,fun hne=>?_⟩;have h0:0<l.length:=List.length_pos_iff.2 hne;obtain ⟨b,off,spot⟩:=a;have g0:=(World.cells?_some (hp 0 h0)).2.2 0 (by simp);have hspot:spot=none:=by simpa [Addr.add] using World.cell?_spot g0
  subst hspot;rw [add_none,add_none] at g0;refine ⟨b,off,rfl,block_lt_of_cell g0,fun j hj i v hv=>?_⟩;have g:=(World.cells?_some (hp j hj)).2.2;simp only [add_none] at g;have hi:i<((callT l[j]).toList).length:=(List.getElem?_eq_some_iff.1 hv).1;exact (g i (by simpa using hi)).trans hv
theorem small_any (x:CallT) (w:World):Calls Tryz.prog 13 #[.agg (callT x)] w (fun e w'=>e=.returned (.bool (decide (x.key.length<=100/\x.val.length<=200)))/\Below w.heap.size w w'):=by
 have b1:=Pool.below_box w (.cells (callT x) 32);have a1:=Store.at_new w (callT x) 32;obtain ⟨k,y,v⟩:=x;obtain ⟨ks,hks⟩:∃ ks,strB y=ks:=⟨_,rfl⟩;obtain ⟨vs,hvs⟩:∃ vs,strB v=vs:=⟨_,rfl⟩;have k1:ks.size=y.length:=by rw [<- hks];exact Page.strB_size y
 have v1:vs.size=v.length:=by rw [<- hvs];exact Page.strB_size v
 have ek:strV y=.string ks:=by rw [<- hks]
 have ev:strV v=.string vs:=by rw [<- hvs]
 rw [show (decide ((⟨k,y,v⟩:CallT).key.length<=100/\(⟨k,y,v⟩:CallT).val.length<=200))=decide (ks.size<=100/\vs.size<=200) by rw [k1,v1]];have e0:callT ⟨k,y,v⟩=#[.int .i64 k,.string ks,.string vs]:=by show #[_,strV y,strV v]=_;rw [ek,ev]
 rw [e0] at b1 a1 ⊢;obtain ⟨W1,hW1⟩:∃ W1,w.alloc (.cells #[.int .i64 k,.string ks,.string vs] 32)=W1:=⟨_,rfl⟩;rw [hW1] at b1 a1;have c1:W1.cell? ⟨w.heap.size,1,none⟩=some (.string ks):=a1.2.2 1 _ rfl;have c2:W1.cell? ⟨w.heap.size,2,none⟩=some (.string vs):=a1.2.2 2 _ rfl;have B1:=hid b1;clear b1 a1 hks hvs k1 v1 ek ev e0
 by_cases h1:ks.size<=100
 ·by_cases h2:vs.size<=200
  ·have ed:decide (ks.size<=100/\vs.size<=200)=true:=decide_eq_true ⟨h1,h2⟩;rw [ed];have t1:(ks.size:Int)<=100:=by omega
   have t2:(vs.size:Int)<=200:=by omega
   clear h1 h2 ed;go_enter Tryz.func13,Tryz.ntmps13
   go_wp2_with fail
   go_ret
   exact ⟨rfl,B1.out⟩
  ·have ed:decide (ks.size<=100/\vs.size<=200)=false:=decide_eq_false (fun h=>h2 h.2);rw [ed];have t1:(ks.size:Int)<=100:=by omega
   have t2:¬ (vs.size:Int)<=200:=by omega
   clear h1 h2 ed;go_enter Tryz.func13,Tryz.ntmps13
   go_wp2_with fail
   go_ret
   exact ⟨rfl,B1.out⟩
 ·have ed:decide (ks.size<=100/\vs.size<=200)=false:=decide_eq_false (fun h=>h1 h.1);rw [ed];have t1:¬ (ks.size:Int)<=100:=by omega
  clear h1 ed;go_enter Tryz.func13,Tryz.ntmps13
  go_wp2_with fail
  go_ret
  exact ⟨rfl,B1.out⟩
end Go.Proofs.YtbhfammnffecoaaGreat.Tree

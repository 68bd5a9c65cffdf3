import Derived.Test.YtbhfammnffecoaaGreatMT13
set_option maxRecDepth 100000
set_option maxHeartbeats 32000000
namespace Go.Proofs.YtbhfammnffecoaaGreat.Tree
open Go.RowKit Gen
open Disk (St Dev Mod ptr)
open Page (Pg Lay PgOk PgRows pgC pgV Enc IsDec BytesAt strV strB PRow SRow IRow less Rises Lt)
open Pool (Po NAt PoAt La poC poV numV At takeP giveP backP Fresh PoolOk OwnI chunks layAll May)
open Store
open Lib (hid)
theorem spread_calm {d d':St} {t t' t2:T} {b:Pg} {n m x:Int} {ks:List Disk.Bs} {ns:List Int} (h:SpreadR d t b [n] d' t' ks ns x) (hf:fillP b<=mostP b) (hp:placeT t d.n n=(t2,m,0)) (hc:Store.Calm d) (hfine:Page.Fine b) (hk:b.kind≠4) (h0:2<=m) (h1:m<d.n) (h2:d.n<=4096) :
 x=0/\ks=[]/\ns=[m]/\t'=t2/\Store.Calm d'/\d'.n=d.n/\LayR d t n b d' t' m 0/\∃ l,Enc m b l/\d'.get m=l:=by
 have e1:partsP b=[b]:=if_neg (by omega);have e2:partsK b=[]:=if_neg (by omega);obtain ⟨t1,os1,x1,hD,hR⟩:=h;rw [e1] at hD hR;have hh:t1=t/\os1=[n]/\x1=0:=by
  cases hD with
  | done _=>exact ⟨rfl,rfl,rfl⟩
  | fail h _ _=>simp at h
  | step h _ _=>simp at h
 obtain ⟨rfl,rfl,rfl⟩:=hh;rcases hR with ⟨h,_⟩ | ⟨_,hL,hks⟩
 ·exact absurd rfl h
 cases hL with
 | done h=>simp at h
 | fail hb hl hx =>
  simp only [List.getElem?_cons_zero,Option.some.injEq] at hb;subst hb;have:=lay_calm hl hp hc hfine hk h0 h1 h2;exact absurd this.2.1 hx
 | step hb hl hr =>
  simp only [List.getElem?_cons_zero,Option.some.injEq] at hb;subst hb;have hl':=hl;obtain ⟨rfl,-,rfl,c1,c2,c3⟩:=lay_calm hl hp hc hfine hk h0 h1 h2;cases hr with
  | done _=>exact ⟨rfl,by rw [hks,if_pos rfl,e2],rfl,rfl,c1,c2,hl',c3⟩
  | fail hb _ _=>simp at hb
  | step hb _ _=>simp at hb
theorem crel_calm {d d':St} {t t' t2:T} {b:Pg} {n N r dp m r' dp' x:Int} (h:CRel n N r dp b d t d' t' r' dp' x) (hb:fillP b≠0) (hf:fillP b<=mostP b) (hp:placeT t d.n n=(t2,m,0)) (hc:Store.Calm d) (hfine:Page.Fine b) (hk:b.kind≠4) (h0:2<=m) (h1:m<d.n) (h2:d.n<=4096) :
 x=0/\r'=m/\dp'=N/\t'=t2/\Store.Calm d'/\d'.n=d.n/\LayR d t n b d' t' m 0/\∃ l,Enc m b l/\d'.get m=l:=by
 rcases h with ⟨e,_⟩ | ⟨_,d1,t1,ks,ns,x1,hR,hh⟩
 ·exact absurd e hb
 obtain ⟨rfl,rfl,rfl,rfl,c1,c2,c3,c4⟩:=spread_calm hR hf hp hc hfine hk h0 h1 h2;rcases hh with ⟨e,_⟩ | ⟨_,_,rfl,rfl,rfl,rfl,rfl⟩ | ⟨_,e,_⟩
 ·exact absurd rfl e
 ·exact ⟨rfl,rfl,rfl,rfl,c1,c2,c3,c4⟩
 ·exact absurd rfl e
theorem down_nil {d:St} {key:Disk.Bs} {r a:Int} {l:List Stp} (h:Down d key r l a) (hl:l.length=0):a=r/\l=[]:=by
 cases h with
 | nil=>exact ⟨rfl,rfl⟩
 | snoc=>simp at hl
theorem leaf_way {d:St} {key:Disk.Bs} {r:Int} {l:List Stp} {s:Stp} {b:Pg} (h:WayP d key r 1 l s) (hb:IsDec r (d.readB r) b):s.p=b/\s.at_=r/\l=[]:=by
 obtain ⟨hd,hl,hp,-⟩:=h;obtain ⟨e,rfl⟩:=down_nil hd (by omega);rw [e] at hp;exact ⟨Page.dec_fun hp.2.1 hb,e,rfl⟩
theorem leaf_noQ {d:St} {key:Disk.Bs} {r x:Int} {b:Pg} (h:WayQ d key r 1 x) (hr:d.readE r=0) (hb:IsDec r (d.readB r) b) (hk:b.kind=1):False:=by
 obtain ⟨l,a,hd,hl,hn,-⟩:=h;obtain ⟨rfl,rfl⟩:=down_nil hd (by omega);have:=hn hr b hb;simp at this;exact this hk
abbrev lf:Pg:=leafOf [([97],[49])]
theorem fine_lf:Page.Fine lf:=by
 refine (Page.fine1 rfl).2 ⟨⟨by simp,fun x hx=>?_,fun s hs=>?_,fun j hj=>?_⟩,rfl,rfl,rfl,rfl,rfl,rfl,rfl,rfl,rfl⟩
 ·simp only [List.mem_singleton] at hx;subst hx;show 1<=100;omega
 ·simp only [List.map_cons,List.map_nil,List.mem_singleton] at hs;subst hs;exact ⟨by decide,by decide⟩
 ·simp at hj
abbrev U2:T:={sup:=T0.sup,own:=[],base:={high:=2},pool:={high:=3},fresh:=fup (fun _=>false) 2 true}
theorem place_u {N:Int} (h:2<N):placeT T0 N 0=(U2,2,0):=by
 have e:takeP T0.pool N=({high:=3},2,0):=by
  show (if N<=2 then _ else _)=_;rw [if_neg (by omega)];rfl
 have e2:takeT T0 N=({T0 with pool:={high:=3}},2,0):=by rw [takeT,e];rfl
 rw [placeT,e2]
 rfl
abbrev U3:T:=newT U2 (leadP (superP U2 2 1 1) U2 []) []
theorem super_u:Page.SuperOk (superP U2 2 1 1):=⟨.inr ⟨by show (2:Int)<=2;omega,by show (2:Int)<=4095;omega⟩,.inl rfl,⟨by show (2:Int)<=3;omega,by show (3:Int)<=4096;omega⟩,⟨by show (0:Int)<=1;omega,by show (1:Int)<=20;omega⟩,⟨fun e=>absurd e (by decide),fun e=>absurd e (by decide)⟩,⟨by show (0:Int)<=1;omega,by show (1:Int)<=2147483647;omega⟩,⟨fun e=>absurd e (by decide),fun e=>absurd e (by decide)⟩⟩
abbrev U4:T:={U3 with pool:={high:=3,limbo:=[2]}}
theorem drop_u:dropT U3 2=(U4,0):=by
 have e3:giveP {high:=3} 2=({high:=3,limbo:=[2]},0):=by
  rw [giveP,if_pos ⟨⟨by omega,by show (2:Int)<3;omega⟩,by simp,by simp⟩];rfl
 rw [dropT,if_neg (by decide),giveT];show ({U3 with pool:=(giveP {high:=3} 2).1},(giveP {high:=3} 2).2)=_;rw [e3]
theorem set_u {d d':St} {t':T} {r' dp' c' x:Int} (hc:Store.Calm d) (hn:d.n=32) (h:ChangeD NilP (fun _=>False) (fun _ s np=>CRel s.at_ 1 0 0 (leafOf np) d T0) (fun l=>setP l [97] [49]) d T0 0 0 0 d' t' r' dp' c' x) :
 x=0/\r'=2/\dp'=1/\c'=1/\t'=U2/\Store.Calm d'/\d'.n=32/\LayR d T0 0 lf d' t' 2 0/\∃ l,Enc 2 lf l/\d'.get 2=l:=by
 rcases h with ⟨l,s,⟨rfl,rfl⟩,h,_⟩ | ⟨l,s,⟨rfl,rfl⟩,_,h,rfl⟩ | ⟨h,_⟩
 ·exact absurd h (by decide)
 ·have e:setP ([]:List (Disk.Bs×Disk.Bs)) [97] [49]=[([97],[49])]:=by decide
  have h':CRel 0 1 0 0 lf d T0 d' t' r' dp' x:=by
   have h2:=h;simp only at h2;rw [e] at h2;exact h2
  obtain ⟨rfl,rfl,rfl,rfl,g1,g2,g3,g4⟩:=crel_calm h' (by decide) (by decide) (place_u (by omega)) hc fine_lf (by decide) (by omega) (by omega) (by omega);exact ⟨rfl,rfl,rfl,by rw [if_pos rfl];simp only;rw [e];rfl,rfl,g1,g2.trans hn,g3,g4⟩
 ·exact h.elim
theorem cut_u {d d':St} {t':T} {r' dp' c' x:Int} {had:Bool} (hr:d.readE 2=0) (hb:IsDec 2 (d.readB 2) lf) (h:CutD (WayP d [97] 2 1) (WayQ d [97] 2 1) (fun _ s np=>CRel s.at_ 1 2 1 (leafOf np) d U3) [97] d U3 2 1 1 d' t' r' dp' c' x had) :
 x=0/\r'=0/\dp'=0/\c'=0/\had=true/\t'=U4/\d'=d:=by
 rcases h with ⟨l,s,hp,h,_⟩ | ⟨l,s,hp,_,h,rfl,rfl⟩ | ⟨h,_⟩
 ·rw [(leaf_way hp hb).1] at h;exact absurd h (by decide)
 ·obtain ⟨e1,e2,-⟩:=leaf_way hp hb;have e:cutP [(([97]:Disk.Bs),([49]:Disk.Bs))] [97]=[]:=by decide
  have h':CRel 2 1 2 1 (leafOf []) d U3 d' t' r' dp' x:=by
   have h2:=h;rw [e1,e2,show lf.pairs=[([97],[49])] from rfl,e] at h2;exact h2
  rcases h' with ⟨_,rfl,rfl,rfl,⟨_,rfl,rfl⟩ | ⟨hx,_⟩⟩ | ⟨h0,_⟩
  ·rw [drop_u,e1];exact ⟨rfl,rfl,rfl,rfl,by decide,rfl,rfl⟩
  ·rw [drop_u] at hx;exact absurd rfl hx
  ·exact absurd rfl h0
 ·exact (leaf_noQ h hr hb rfl).elim
theorem cut_v {d d':St} {t':T} {r' dp' c' x:Int} {had:Bool} (h:CutD NilP (fun _=>False) (fun _ s np=>CRel s.at_ 1 0 0 (leafOf np) d U4) [97] d U4 0 0 0 d' t' r' dp' c' x had) :
 x=0/\r'=0/\dp'=0/\c'=0/\had=false:=by
 rcases h with ⟨l,s,⟨rfl,rfl⟩,_,rfl,rfl,rfl,rfl,rfl,rfl,rfl⟩ | ⟨l,s,⟨rfl,rfl⟩,h,_⟩ | ⟨h,_⟩
 ·exact ⟨rfl,rfl,rfl,rfl,by decide⟩
 ·exact absurd (by decide) h
 ·exact h.elim
theorem i64_1:I64 1:=⟨by omega,by omega⟩
theorem i64_2:I64 2:=⟨by omega,by omega⟩
theorem way_leaf {w0 w:World} {B:Blk} {tb:Nat} {d:St} {t:T} {r c:Int} (h:TrOn w0 w B tb d t r 1 c) (key:Disk.Bs) (W:World) (hb:Below w.heap.size w W) :
 Calls Tryz.prog 58 #[ptr tb,strV key] W (WayOk (WayP d key r 1) (WayQ d key r 1) W):=by
 obtain ⟨a,s⟩:=(h.quiet hb).sto.has;exact way_full s (m:=0) (by omega) (h.quiet hb).box key
theorem get_u {w0 w:World} {B:Blk} {tb:Nat} {d:St} {t:T} {c:Int} (h:TrOn w0 w B tb d t 2 1 c) (hr:d.readE 2=0) (hb:IsDec 2 (d.readB 2) lf) (key v:Disk.Bs) (b:Bool) (hv:valOf lf.pairs key=v) (hh:hasOf (keysOf lf.pairs) key=b) :
 Calls Tryz.prog 29 #[ptr tb,strV key] w (fun e w'=>e=.returned (.tuple #[strV v,.bool b,numV 0])/\Below w.heap.size w w'):=by
 refine (get_any h key (P:=WayP d key 2 1) (Q:=WayQ d key 2 1) (fun l s hp=>by have:=wayP_leaf hp;exact ⟨this.1,by omega⟩) (way_leaf h key)).mono ?_;rintro e w' (⟨l,s,hp,rfl,bl⟩ | ⟨x,hq,_⟩)
 ·rw [(leaf_way hp hb).1,hv,hh];exact ⟨rfl,bl⟩
 ·exact (leaf_noQ hq hr hb rfl).elim
theorem awake_any (w:World):Calls Tryz.prog 11 #[] w (fun e w'=>e=.returned (.bool true)/\Below w.heap.size w w'):=by
 have cN:Calls Tryz.prog 12 #[.int .i64 32] w _:=new_any 32 (by omega) (by omega) w;go_enter Tryz.func11,Tryz.ntmps11
 go_wp2_with fail
 refine cN.mono ?_;rintro e w1 ⟨B,tb,d1,rfl,H1,sf,cm,hn⟩;have H1':=hid H1;have SF:=hid sf;have CM:=hid cm;have HN:=hid (show d1.n=32 from hn);have MEM:=hid H1.mem;have cS:Calls Tryz.prog 24 #[ptr tb,.string {data:=#[97]},.string {data:=#[49]}] w1 _:=set_first H1 (by omega) [97] [49] (by decide) (by decide) (by decide);clear H1 sf cm hn cN;go_wp2_with fail
 refine cS.mono ?_;rintro e w2 ⟨d2,t2,r2,dp2,c2,x2,rfl,hR,m2,hok,-⟩;obtain ⟨rfl,rfl,rfl,rfl,rfl,cm2,n2,hl,la,hla,hga⟩:=set_u CM.out HN.out hR;have H2:=hid (hok rfl);have ST:=(Pre.refl SF.out.pre).lay SF.out.pre hl;have P2:=hid (ST.pre SF.out.pre);have CM2:=hid cm2;have N2:=hid n2;have LA:=hid (show Enc 2 lf la/\d2.get 2=la from ⟨hla,hga⟩);have rd:=on_read cm2.1 (x:=2) (by omega) (by rw [n2];omega)
 have RD:=hid (show d2.readE 2=0/\IsDec 2 (d2.readB 2) lf from ⟨rd.1,by rw [rd.2,hga];exact Page.dec_of_enc hla (by show 0<_;omega)⟩);clear hR m2 hok hl hla hga rd cm2 n2 ST SF CM HN H1' cS;have cG:Calls Tryz.prog 29 #[ptr tb,.string {data:=#[97]}] w2 _:=get_u H2.out RD.out.1 RD.out.2 [97] [49] true (by decide) (by decide);go_wp2_with fail
 refine cG.mono ?_;rintro e w3 ⟨rfl,b3⟩;have H3:=hid (H2.out.quiet b3);have cH:Calls Tryz.prog 29 #[ptr tb,.string {data:=#[98]}] w3 _:=get_u H3.out RD.out.1 RD.out.2 [98] [] false (by decide) (by decide);clear b3 cG H2;go_wp2_with fail
 refine cH.mono ?_;rintro e w4 ⟨rfl,b4⟩;have H4:=hid (H3.out.quiet b4);have cD:=depth_any H4.out.box;have cC:=count_any H4.out.box;have cR:=root_any H4.out.box;clear b4 cH H3;go_wp2_with fail
 refine cD.mono ?_;rintro e w' ⟨rfl,rfl⟩;clear cD;go_wp2_with fail
 refine cC.mono ?_;rintro e w' ⟨rfl,rfl⟩;clear cC;go_wp2_with fail
 refine cR.mono ?_;rintro e w' ⟨rfl,rfl⟩;clear cR;have cB:Calls Tryz.prog 24 #[ptr tb,.string {data:=#[]},.string {data:=#[]}] w4 _:=set_bad [] [] (.inl (by decide));go_wp2_with fail
 refine cB.mono ?_;rintro e w5 ⟨rfl,b5⟩;have H5:=hid (H4.out.quiet b5);have cK:=keep_any H5.out i64_2 i64_1 i64_1 (by show 0<=100000;omega) (fun x hx=>by cases hx);clear b5 cB H4;go_wp2_with fail
 refine cK.mono ?_;rintro e w6 ⟨d3,t3,x,rfl,hc,-,hok,-⟩;obtain ⟨rfl,rfl⟩:=commit_few hc CM2.out (by rw [N2.out];omega) rfl rfl super_u;rcases commit_ends P2.out (by show 1+1<_;omega) hc with ⟨hx,-⟩ | ⟨hx,-⟩ | ⟨-,md⟩
 ·exact absurd rfl hx
 ·exact absurd rfl hx
 have H6:=hid (hok rfl);have hlive:Live U3.base 2:=⟨by omega,by show (2:Int)<3;omega,by show (2:Int)∉layAll [] [];decide⟩;have hget:d3.get 2=la:=by
  rw [md.safe.get (.inr (.inr hlive)),md.fresh 2 rfl];exact LA.out.2
 have hcm:=md.calm CM2.out;have hn3:=md.n.trans N2.out;have rd:=on_read hcm.1 (x:=2) (by omega) (by rw [hn3];omega);have RD3:=hid (show d3.readE 2=0/\IsDec 2 (d3.readB 2) lf from ⟨rd.1,by rw [rd.2,hget];exact Page.dec_of_enc LA.out.1 (by show 0<_;omega)⟩);have cU:Calls Tryz.prog 26 #[ptr tb,.string {data:=#[97]}] w6 (DoneC (CutD (WayP d3 [97] 2 1) (WayQ d3 [97] 2 1) (fun _ s np=>CRel s.at_ 1 2 1 (leafOf np) d3 U3) [97] d3 U3 2 1 1) w B tb w6):=cut_last H6.out i64_2 (by omega) [97]
 clear hc hok md hlive hget hcm hn3 rd cK H5 P2 CM2 N2 LA RD;go_wp2_with fail
 refine cU.mono ?_;rintro e w7 ⟨d4,t4,r4,dp4,c4,x,had,rfl,hR,-,hok,-⟩;obtain ⟨rfl,rfl,rfl,rfl,rfl,rfl,rfl⟩:=cut_u RD3.out.1 RD3.out.2 hR;have H7:=hid (hok rfl);have cV:Calls Tryz.prog 26 #[ptr tb,.string {data:=#[97]}] w7 (DoneC (CutD NilP (fun _=>False) (fun _ s np=>CRel s.at_ 1 0 0 (leafOf np) d4 U4) [97] d4 U4 0 0 0) w B tb w7):=cut_none H7.out (by omega) [97];have hb1:(true&&decide ((0:Int)=0))=true:=by decide
 rw [hb1];clear hR hok cU H6 RD3 hb1;go_wp2_with fail
 refine cV.mono ?_;rintro e w8 ⟨d5,t5,r5,dp5,c5,x,had,rfl,hR,-,hok,-⟩;obtain ⟨rfl,rfl,rfl,rfl,rfl⟩:=cut_v hR;have H8:=hok rfl;have cD:=depth_any H8.box;have cC:=count_any H8.box;have cT:=store_any H8.box;have FIN:=hid (H8.below (Mod.refl _ _));have hb2:(false&&decide ((0:Int)=0))=false:=by decide
 rw [hb2];have hs:(strB [49]).toList=[49]:=Page.strB_list _;clear hR hok cV H7 hb2 H8;go_wp2_with fail
 refine cD.mono ?_;rintro e w' ⟨rfl,rfl⟩;clear cD;go_wp2_with fail
 refine cC.mono ?_;rintro e w' ⟨rfl,rfl⟩;clear cC;go_wp2_with fail
 refine cT.mono ?_;rintro e w' ⟨rfl,rfl⟩;clear cT;go_wp2_with fail
 go_ret
 exact ⟨rfl,FIN.out⟩
open Page (Pg Lay PgOk PgRows pgC pgV strV strB)
open Pool (numV At)
theorem own:ownKnob Tryz.prog.godebug=none:=by kernel_rfl
end Go.Proofs.YtbhfammnffecoaaGreat.Tree

import Derived.WalkKit
import Derived.Maps.AppendAt
import Derived.Laws.AppendOwnNone
import Derived.Lib.Hide
import Derived.Shelf.SlIterI.Nil
import Derived.Shelf.SortM.Plain
import Derived.Shelf.SortM.SortNone
import Derived.Test.YtglejnkoojpelaaGreatProg
import Derived.OrdersHeld
import Derived.StillTail
import Derived.KernelRfl
import Derived.OrdersIn
import Derived.RangeFuncCalls
set_option maxRecDepth 100000
set_option maxHeartbeats 32000000
namespace Go.Proofs.YtglejnkoojpelaaGreat.Gen
open Go.RowKit
open Lib (hid)
variable {P:Program} {α:Type}
structure Elem (P:Program) (t e:TypeId) (enc:α->Value):Prop where
 ht:P.underlying t=some (.slice e)
 info:∃ (i:TypeInfo) (z:Value) (by8:Nat),P.info? e=some i/\i.zero=some z/\i.size=1/\i.bytes=by8/\z.cells.size=1/\by8<=64
 one:∀ x,(enc x).oneCell'=true
def RowG (w:World) (enc:α->Value) (A:Option Addr) (l:List α):Prop:=l≠[]->∃ b off,A=some ⟨b,off,none⟩/\b<w.heap.size/\∀ k (h:k<l.length),w.cell? ⟨b,off+k,none⟩=some (enc l[k])
def OwnG (w:World) (e:TypeId) (enc:α->Value) (B:Nat) (v:Value) (l:List α):Prop:=w.ownsRow B e 1 v l.length (l.map enc)
theorem RowG.below {w w':World} {enc:α->Value} {A:Option Addr} {l:List α} (h:RowG w enc A l) (hb:Below w.heap.size w w'):RowG w' enc A l:=fun hne=>by
 obtain ⟨b,off,e,hlt,hc⟩:=h hne;refine ⟨b,off,e,Nat.lt_of_lt_of_le hlt hb.size,fun k hk=>?_⟩;rw [hb.cell (p:=⟨b,off+k,none⟩) hlt];exact hc k hk
theorem OwnG.nil (w:World) (e:TypeId) (enc:α->Value) (B:Nat):OwnG w e enc B (.slice none 0 0) []:=⟨rfl,Or.inl ⟨rfl,rfl⟩⟩
theorem g1x {t e:TypeId} {enc:α->Value} (E:Elem P t e enc) (W:World) (B:Nat) (v:Value) (ys:List α) (hown:OwnG W e enc B v ys) (A:Option Addr) (m c:Nat) (zs:List α) (hz:zs.length=m) (hA:A=none->c=0) (hrow:RowG W enc A zs)
 (hn:ys.length+m<=1000000000000) (hB:B<=W.heap.size) :
 ∃ v' W',(Builtin.append_ #[t,t] t #[v,.slice A m c]).run P W=.ok v' W'/\OwnG W' e enc B v' (ys++zs)/\W.grownBy W' v.ownBlock/\(v'.ownBlock=v.ownBlock\/v'.ownBlock=some W.heap.size):=by
 obtain ⟨i0,z,by8,hi,hz0,hz1,hz2,hz3,hby⟩:=E.info;rcases A with _ | a
 ·have hm:zs=[]:=by
   rcases zs with _ | ⟨z,zs⟩
   ·rfl
   ·obtain ⟨b,o,h,_⟩:=hrow (by simp);cases h
  subst hm;obtain rfl:c=0:=hA rfl;obtain rfl:m=0:=hz.symm;refine ⟨v,W,run_append_owned_none (P:=P) (w:=W) B _ _ e i0 1 E.ht hi v _ _ hown,by rw [List.append_nil];exact hown,World.grownBy.refl W _,.inl rfl⟩
 ·obtain ⟨v',w',h1,h2,h3,_,h5⟩:=run_append_own_at (P:=P) W B t t e i0 z 1 by8 E.ht hi hz0 hz1 hz2 hz3 (by decide) v _ _ hown a m c (zs.map enc) (by simp [hz])
   (fun j u hu=>by
     rw [List.getElem?_map,Option.map_eq_some_iff] at hu;obtain ⟨x,hx,rfl⟩:=hu;obtain ⟨hj,hx⟩:=List.getElem?_eq_some_iff.1 hx;obtain ⟨b,o,h,_,hc⟩:=hrow (by intro e;subst e;simp at hj)
     injection h with h
     subst h;have e:(⟨b,o,none⟩:Addr).add j=⟨b,o+j,none⟩:=by unfold Addr.add;split <;> simp_all
     rw [e,hc j hj,hx])
   (fun u hu=>by
     obtain ⟨x,_,rfl⟩:=List.mem_map.1 hu;exact E.one x)
   (by simp only [maxLen];omega) (by
     have:(ys.length+m)*by8<=(ys.length+m)*64:=Nat.mul_le_mul_left _ hby
     omega) hB
  refine ⟨v',w',h1,?_,h3,h5⟩;unfold OwnG;rw [List.length_append,hz,List.map_append];exact h2
theorem g0e {ops:Array Oper} {rest:List Oper} {o:Oper} {a:Act} {Q:Exit->Act->World->Prop} {w w':World} {v u v':Value} (hgd:o.guard=none) (s x:Operand) (t:TypeId)
 (ho:o.op=.call {callee:=.builtin .append,args:=#[s,x],argTypes:=#[t,t]}) (hs:a.eval s=v) (hx:a.eval x=u) (hrun:(Builtin.append_ #[t,t] o.type #[v,u]).run P w=.ok v' w')
 (h:wpList P ops Q rest (a.put o.dst v') w'):wpList P ops Q (o :: rest) a w:=by
 refine wpList_plain hgd fun K hK=>?_
 unfold Oper.wp;simp [execOp,ho,resolve,invoke,builtin,hs,hx,hrun,Result.andThen];exact hK _ _ h
theorem OwnG.row {w:World} {e:TypeId} {enc:α->Value} {B:Nat} {v:Value} {l:List α} (h:OwnG w e enc B v l):∃ A c,v=.slice A l.length c/\(A=none->c=0)/\l.length<=c/\c<=maxLen/\RowG w enc A l:=by
 obtain ⟨hl,⟨rfl,hn⟩ | ⟨g,cap,cur,rfl,hg,hh,hnc,hcm,_,ht⟩⟩:=h
 ·obtain rfl:l=[]:=List.eq_nil_of_length_eq_zero hn;exact ⟨none,0,rfl,fun _=>rfl,Nat.le_refl _,Nat.zero_le _,fun hne=>absurd rfl hne⟩
 ·refine ⟨some ⟨g,0,none⟩,cap,rfl,fun h=>(by cases h),hnc,hcm,fun _=>⟨g,0,rfl,?_,fun k hk=>?_⟩⟩
  ·rcases Nat.lt_or_ge g w.heap.size with h' | h'
   ·exact h'
   ·rw [Array.getElem?_eq_none h'] at hh;cases hh
  ·rw [Nat.zero_add,cell_of_row w g k cur _ _ hh];have e:(cur.toList.take (l.length*1))[k]?=(l.map enc)[k]?:=by rw [ht]
   rw [List.getElem?_take_of_lt (by omega)] at e;rw [<- Array.getElem?_toList,e];simp [hk]
theorem OwnG.kept {w w':World} {e:TypeId} {enc:α->Value} {B:Nat} {v:Value} {l:List α} (h:OwnG w e enc B v l) (hb:Below w.heap.size w w'):OwnG w' e enc B v l:=by
 obtain ⟨hl,h | ⟨g,cap,cur,hv,hg,hh,h4,h5,h6,h7⟩⟩:=h
 ·exact ⟨hl,Or.inl h⟩
 ·refine ⟨hl,Or.inr ⟨g,cap,cur,hv,hg,?_,h4,h5,h6,h7⟩⟩;have hlt:g<w.heap.size:=by
   rcases Nat.lt_or_ge g w.heap.size with h' | h'
   ·exact h'
   ·rw [Array.getElem?_eq_none h'] at hh;cases hh
  rw [hb.block g hlt];exact hh
theorem below_grown {w w' w0:World} {B:Nat} {v:Value} {e:TypeId} {enc:α->Value} {l:List α} (hb:Below B w0 w) (h:OwnG w e enc B v l) (hg:w.grownBy w' v.ownBlock) (hB:B<=w.heap.size):Below B w0 w' :=
 hb.grown hg hB (fun k hk=>(World.ownsRow.lt h k hk).1)
end Go.Proofs.YtglejnkoojpelaaGreat.Gen
namespace Go.Proofs
open Go.Shelf
open Lib (hid)
def Tryz.sortedA_ren:Go.Shelf.Ren:=⟨fun | 6=>80 | 8=>136 | 9=>137 | 11=>177 | 13=>179 | 12=>178 | 23=>215 | 24=>216 | 14=>206 | 15=>207 | 16=>208 | 17=>209 | 18=>210 | 19=>211 | 20=>212 | 21=>213 | 22=>214 | 25=>245 | 26=>246 | 27=>247 | 28=>248 | 29=>249 | 30=>250 | 31=>272 | n=>n,fun | 26=>3 | 28=>143 | 24=>66 | 0=>0 | 3=>3 | 37=>230 | 48=>258 | 50=>101 | 4=>4 | 40=>252 | 39=>251 | 45=>169 | 5=>5 | 9=>9 | 51=>280 | 55=>284 | 57=>301 | 58=>302 | 33=>125 | n=>n,fun | n=>n⟩
theorem Tryz.sortedA:Go.Proofs.SlLaysZI.n6 Tryz.prog Tryz.sortedA_ren:={
 mixed:=by kernel_rfl
 f6:=⟨Tryz.f80.name,by decide,Tryz.func80.trans (congrArg some (by kernel_rfl))⟩
 f8:=⟨Tryz.f136.name,by decide,Tryz.func136.trans (congrArg some (by kernel_rfl))⟩
 f11:=⟨Tryz.f177.name,by decide,Tryz.func177.trans (congrArg some (by kernel_rfl))⟩
 t0:=Tryz.underlying0
 a0:=Tryz.isAgg0
 z0:=Tryz.sizeOf0
 v0:=Tryz.zeroValue0
 t24:=Tryz.underlying66
 a24:=Tryz.isAgg66
 z24:=Tryz.sizeOf66
 v24:=Tryz.zeroValue66
 t26:=Tryz.underlying3
 a26:=Tryz.isAgg3
 z26:=Tryz.sizeOf3
 v26:=Tryz.zeroValue3
 t28:=Tryz.underlying143
 a28:=Tryz.isAgg143
 z28:=Tryz.sizeOf143
 v28:=Tryz.zeroValue143
 i26:=by kernel_rfl}
def Tryz.sortA_ren:Go.Shelf.Ren:=⟨fun | 5=>137 | 8=>179 | 7=>178 | 19=>215 | 20=>216 | 10=>206 | 11=>207 | 12=>208 | 13=>209 | 14=>210 | 15=>211 | 16=>212 | 17=>213 | 18=>214 | 30=>245 | 31=>246 | 32=>247 | 33=>248 | 34=>249 | 35=>250 | 40=>272 | n=>n,fun | 23=>66 | 25=>3 | 3=>3 | 32=>230 | 22=>66 | 0=>0 | 44=>258 | 46=>101 | 4=>4 | 36=>252 | 35=>251 | 41=>169 | 5=>5 | 9=>9 | 53=>280 | 57=>284 | 63=>301 | 64=>302 | n=>n,fun | n=>n⟩
theorem Tryz.sortA:Go.Proofs.SlLaysM.n5 Tryz.prog Tryz.sortA_ren:={
 mixed:=by kernel_rfl
 f5:=⟨Tryz.f137.name,by decide,Tryz.func137.trans (congrArg some (by kernel_rfl))⟩
 f7:=⟨Tryz.f178.name,by decide,Tryz.func178.trans (congrArg some (by kernel_rfl))⟩
 f8:=Tryz.func179.trans (congrArg some (by kernel_rfl))
 f10:=⟨Tryz.f206.name,by decide,Tryz.func206.trans (congrArg some (by kernel_rfl))⟩
 f11:=⟨Tryz.f207.name,by decide,Tryz.func207.trans (congrArg some (by kernel_rfl))⟩
 f12:=⟨Tryz.f208.name,by decide,Tryz.func208.trans (congrArg some (by kernel_rfl))⟩
 f13:=⟨Tryz.f209.name,by decide,Tryz.func209.trans (congrArg some (by kernel_rfl))⟩
 f14:=⟨Tryz.f210.name,by decide,Tryz.func210.trans (congrArg some (by kernel_rfl))⟩
 f15:=⟨Tryz.f211.name,by decide,Tryz.func211.trans (congrArg some (by kernel_rfl))⟩
 f16:=⟨Tryz.f212.name,by decide,Tryz.func212.trans (congrArg some (by kernel_rfl))⟩
 f17:=⟨Tryz.f213.name,by decide,Tryz.func213.trans (congrArg some (by kernel_rfl))⟩
 f18:=⟨Tryz.f214.name,by decide,Tryz.func214.trans (congrArg some (by kernel_rfl))⟩
 f19:=Tryz.func215.trans (congrArg some (by kernel_rfl))
 f20:=Tryz.func216.trans (congrArg some (by kernel_rfl))
 f30:=⟨Tryz.f245.name,by decide,Tryz.func245.trans (congrArg some (by kernel_rfl))⟩
 f31:=Tryz.func246.trans (congrArg some (by kernel_rfl))
 f32:=Tryz.func247.trans (congrArg some (by kernel_rfl))
 f33:=⟨Tryz.f248.name,by decide,Tryz.func248.trans (congrArg some (by kernel_rfl))⟩
 f34:=⟨Tryz.f249.name,by decide,Tryz.func249.trans (congrArg some (by kernel_rfl))⟩
 f35:=⟨Tryz.f250.name,by decide,Tryz.func250.trans (congrArg some (by kernel_rfl))⟩
 f40:=⟨Tryz.f272.name,by decide,Tryz.func272.trans (congrArg some (by kernel_rfl))⟩
 t0:=Tryz.underlying0
 a0:=Tryz.isAgg0
 z0:=Tryz.sizeOf0
 v0:=Tryz.zeroValue0
 t3:=Tryz.underlying3
 a3:=Tryz.isAgg3
 z3:=Tryz.sizeOf3
 v3:=Tryz.zeroValue3
 t4:=Tryz.underlying4
 a4:=Tryz.isAgg4
 z4:=Tryz.sizeOf4
 v4:=Tryz.zeroValue4
 t5:=Tryz.underlying5
 a5:=Tryz.isAgg5
 z5:=Tryz.sizeOf5
 v5:=Tryz.zeroValue5
 t9:=Tryz.underlying9
 a9:=Tryz.isAgg9
 z9:=Tryz.sizeOf9
 v9:=Tryz.zeroValue9
 t22:=Tryz.underlying66
 a22:=Tryz.isAgg66
 z22:=Tryz.sizeOf66
 v22:=Tryz.zeroValue66
 t23:=Tryz.underlying66
 a23:=Tryz.isAgg66
 z23:=Tryz.sizeOf66
 v23:=Tryz.zeroValue66
 t25:=Tryz.underlying3
 a25:=Tryz.isAgg3
 z25:=Tryz.sizeOf3
 v25:=Tryz.zeroValue3
 t32:=Tryz.underlying230
 a32:=Tryz.isAgg230
 z32:=Tryz.sizeOf230
 v32:=Tryz.zeroValue230
 t35:=Tryz.underlying251
 a35:=Tryz.isAgg251
 z35:=Tryz.sizeOf251
 v35:=Tryz.zeroValue251
 t36:=Tryz.underlying252
 a36:=Tryz.isAgg252
 z36:=Tryz.sizeOf252
 v36:=Tryz.zeroValue252
 t41:=Tryz.underlying169
 a41:=Tryz.isAgg169
 z41:=Tryz.sizeOf169
 v41:=Tryz.zeroValue169
 t44:=Tryz.underlying258
 a44:=Tryz.isAgg258
 z44:=Tryz.sizeOf258
 v44:=Tryz.zeroValue258
 t46:=Tryz.underlying101
 a46:=Tryz.isAgg101
 z46:=Tryz.sizeOf101
 v46:=Tryz.zeroValue101
 t53:=Tryz.underlying280
 a53:=Tryz.isAgg280
 z53:=Tryz.sizeOf280
 v53:=Tryz.zeroValue280
 t57:=Tryz.underlying284
 a57:=Tryz.isAgg284
 z57:=Tryz.sizeOf284
 v57:=Tryz.zeroValue284
 t63:=Tryz.underlying301
 a63:=Tryz.isAgg301
 z63:=Tryz.sizeOf301
 v63:=Tryz.zeroValue301
 t64:=Tryz.underlying302
 a64:=Tryz.isAgg302
 z64:=Tryz.sizeOf302
 v64:=Tryz.zeroValue302}
end Go.Proofs
namespace Go.Proofs.YtglejnkoojpelaaGreat.Gen
open Go.RowKit
open Lib (hid)
variable {P:Program}
abbrev nop (o:Oper):Oper:={o with op:=.move (.const (.bool true))}
def k8a (md:Region.Mode) (ops:Array Oper):Bool:=(List.range ops.size).all fun j=>match ops[j]? with
 | some o=>o.after.all fun e=>!Region.binds md e || decide (e.on<j)
 | none=>true
def j7r (P:Program) (o:Oper) (Q:Exit->Act->World->Prop):Exit->Act->World->Prop
 | .normal,a,w=>o.wp P a w (fun a' w'=>Q .normal a' w') Q
 | e,a,w=>Q e a w
theorem j5v {o:Oper} {a:Act} {K K':Act->World->Prop} {Q Q':Exit->Act->World->Prop} {r:Result Next} (hK:∀ a w,K a w->K' a w) (hQ:∀ c a w,Q (.panic c) a w->Q' (.panic c) a w) (hL:LetsOut Q->LetsOut Q') (h:o.upon P a K Q r):o.upon P a K' Q' r:=by
 unfold Oper.upon at *
 split at h
 ·exact hK _ _ h
 ·exact hK _ _ h
 ·exact hK _ _ h
 ·refine h.mono fun e w' he=>?_
  cases e
  ·exact hK _ _ he
  ·exact hQ _ _ _ he
  ·exact hL he
 ·exact h.mono fun v w' he=>hK _ _ he
 ·exact hQ _ _ _ h
 ·exact h.elim
section
variable {md:Region.Mode} {ops:Array Oper} {n:Nat} {o:Oper}
def g3n (ops:Array Oper) (n:Nat) (o:Oper):Array Oper:=ops.setIfInBounds n (nop o)
theorem g7z (ho:ops[n]?=some o):(g3n ops n o)[n]?=some (nop o):=by
 have hn:n<ops.size:=(Array.getElem?_eq_some_iff.1 ho).1;simp [g3n,hn]
theorem g7p {i:Nat} (h:i≠n):(g3n ops n o)[i]?=ops[i]?:=by unfold g3n;rw [Array.getElem?_setIfInBounds_ne (Ne.symm h)]
theorem h3v (ho:ops[n]?=some o) (t:Array Value):yielded (g3n ops n o) t=yielded ops t:=by
 funext j
 unfold yielded
 by_cases e:j=n
 ·subst e;rw [g7z ho,ho];rfl
 ·rw [g7p e]
theorem h1u (ho:ops[n]?=some o) (listed:Array Bool):Region.ready md (g3n ops n o) listed=Region.ready md ops listed:=by
 unfold Region.ready;have hs:(g3n ops n o).size=ops.size:=by simp [g3n]
 rw [hs];refine List.filter_congr (fun i _=>?_)
 by_cases e:i=n
 ·subst e;rw [g7z ho,ho];rfl
 ·rw [g7p e]
structure Inv (md:Region.Mode) (ops:Array Oper) (n:Nat) (listed:Array Bool):Prop where
 size:listed.size=ops.size
 closed:∀ j oj,ops[j]?=some oj->listed.getD j false=true->∀ e∈oj.after,Region.binds md e=true->listed.getD e.on false=true
def unl (listed:Array Bool) (m:Nat):Nat:=((List.range m).filter fun i=>!listed.getD i true).length
theorem h3s {listed:Array Bool} {i j:Nat} {d:Bool} (hi:i<listed.size):(listed.setIfInBounds i true).getD j d=if i=j then true else listed.getD j d:=by
 simp only [Array.getD_eq_getD_getElem?]
 by_cases e:i=j
 ·subst e;simp [hi]
 ·rw [Array.getElem?_setIfInBounds_ne e,if_neg e]
theorem j6w {listed:Array Bool} {i:Nat} (hi:i<listed.size) (d d':Bool):listed.getD i d=listed.getD i d':=by
 simp [Array.getD_eq_getD_getElem?,hi]
theorem Inv.set {listed:Array Bool} (h:Inv md ops n listed) {i:Nat} (hr:i∈Region.ready md ops listed):Inv md ops n (listed.setIfInBounds i true):=by
 obtain ⟨_,oi,hoi,hall⟩:=mem_ready.1 hr;have hi:i<listed.size:=by rw [h.size];exact (Array.getElem?_eq_some_iff.1 hoi).1
 refine ⟨by simpa using h.size,fun j oj hj hl e he hb=>?_⟩;rw [h3s hi] at hl ⊢
 by_cases e1:i=e.on
 ·rw [if_pos e1]
 ·rw [if_neg e1]
  by_cases e2:i=j
  ·subst e2;rw [hoi] at hj;cases hj;exact hall e he hb
  ·rw [if_neg e2] at hl;exact h.closed j oj hj hl e he hb
theorem p0m {listed:Array Bool} {i m:Nat} (hi:i<listed.size) (him:i<m) (hl:listed.getD i true=false):unl (listed.setIfInBounds i true) m<unl listed m:=by
 unfold unl;have hs:((List.range m).filter fun j=>!(listed.setIfInBounds i true).getD j true)=((List.range m).filter fun j=>!listed.getD j true).filter (fun j=>decide (j≠i)):=by
  rw [List.filter_filter];refine List.filter_congr (fun j _=>?_);rw [h3s hi]
  by_cases e:i=j
  ·subst e;simp
  ·simp [e,Ne.symm e]
 rw [hs];exact List.length_filter_lt_length_iff_exists.2 ⟨i,List.mem_filter.2 ⟨List.mem_range.2 him,by simp [hl]⟩,by simp⟩
theorem k0j {listed:Array Bool} (hs:Region.sinkB md ops n=true) (hv:Inv md ops n listed) (hr:n∈Region.ready md ops listed):∀ d i,i<n->n-i<=d->listed.getD i false=true:=by
 intro d
 induction d with
 | zero=>intro i h1 h2;omega
 | succ d ih =>
  intro i h1 h2;have h3:=List.all_eq_true.1 hs i (List.mem_range.2 h1);obtain ⟨j,hj,hj2⟩:=List.any_eq_true.1 h3;rw [Bool.and_eq_true,decide_eq_true_eq] at hj2;rw [List.mem_range] at hj;obtain ⟨oj,hoj,e,he,hb,hon⟩:=Region.waitsFor_spec hj2.2;subst hon
  by_cases e1:j=n
  ·subst e1;obtain ⟨_,o2,ho2,hall⟩:=mem_ready.1 hr;rw [hoj] at ho2;cases ho2;exact hall e he hb
  ·exact hv.closed j oj hoj (ih j (by omega) (by omega)) e he hb
theorem j9o {listed:Array Bool} (hn:ops.size=n+1) (hb:k8a md ops=true) (hv:Inv md ops n listed) (hl:listed.getD n true=false):Region.ready md ops listed≠[]:=by
 have key:∀ d j,j<=d->j<ops.size->listed.getD j true=false->∃ i,i∈Region.ready md ops listed:=by
  intro d
  induction d with
  | zero =>
   intro j h1 h2 h3;obtain rfl:j=0:=by omega
   refine ⟨0,mem_ready.2 ⟨h3,ops[0],Array.getElem?_eq_getElem h2,fun e he hbi=>?_⟩⟩;have h4:=List.all_eq_true.1 hb 0 (List.mem_range.2 h2);rw [Array.getElem?_eq_getElem h2] at h4;have h5:=Array.all_eq_true'.1 h4 e he;simp [hbi] at h5
  | succ d ih =>
   intro j h1 h2 h3
   by_cases hall:∀ e∈(ops[j]).after,Region.binds md e=true->listed.getD e.on false=true
   ·exact ⟨j,mem_ready.2 ⟨h3,ops[j],Array.getElem?_eq_getElem h2,hall⟩⟩
   ·have:∃ e,e∈(ops[j]).after/\Region.binds md e=true/\listed.getD e.on false≠true:=by
     refine Classical.byContradiction fun hno=>hall fun e he hbi=>Classical.byContradiction fun hne=>hno ⟨e,he,hbi,hne⟩
    obtain ⟨e,he,hbi,hne⟩:=this;have h4:=List.all_eq_true.1 hb j (List.mem_range.2 h2);rw [Array.getElem?_eq_getElem h2] at h4;have h5:=Array.all_eq_true'.1 h4 e he;simp [hbi] at h5;have h6:e.on<listed.size:=by rw [hv.size];omega
    refine ih e.on (by omega) (by omega) ?_;rw [j6w h6 true false]
    simpa using hne
 obtain ⟨i,hi⟩:=key n n (Nat.le_refl _) (by omega) hl;intro h;rw [h] at hi;cases hi
theorem h7x {Q:Exit->Act->World->Prop} {S:World->Prop} (hn:ops.size=n+1) (ho:ops[n]?=some o) (hd:o.dst=none) (hg:o.guard=none) (hs:Region.sinkB md ops n=true) (hb:k8a md ops=true) :
 ∀ (fuel:Nat) (listed:Array Bool) (a:Act) (w:World),Inv md ops n listed->listed.getD n true=false->unl listed (n+1)<=fuel->wpAnyH P md (g3n ops n o) (j7r P o Q) S fuel listed a w->wpAny P md ops Q fuel listed a w:=by
 intro fuel
 induction fuel with
 | zero =>
  intro listed a w hv hl hu _
  exfalso
  unfold unl at hu;have:n∈(List.range (n+1)).filter fun i=>!listed.getD i true:=List.mem_filter.2 ⟨List.mem_range.2 (by omega),by simp [hl]⟩
  have:=List.length_pos_of_mem this;omega
 | succ fuel ih =>
  intro listed a w hv hl hu H;refine ⟨fun h=>absurd h (j9o hn hb hv hl),fun i hi=>?_⟩;have H2:=H.2 i (by rw [h1u ho];exact hi);obtain ⟨hli,oi,hoi,_⟩:=mem_ready.1 hi;have his:i<listed.size:=by rw [hv.size];exact (Array.getElem?_eq_some_iff.1 hoi).1
  by_cases e:i=n
  ·subst e;rw [ho] at hoi;cases hoi;unfold wpOp at H2 ⊢;rw [g7z ho] at H2;rw [ho];have hw:Region.wanted o (yielded ops a.tmps)=true:=by simp [Region.wanted,hg]
   have hw2:Region.wanted (nop o) (yielded (g3n ops i o) a.tmps)=true:=by simp [Region.wanted,hg]
   simp only [hw2,hw,if_true] at H2 ⊢;have hdone:Region.ready md ops (listed.setIfInBounds i true)=[]:=by
    rw [List.eq_nil_iff_forall_not_mem];intro j hj;obtain ⟨hlj,oj,hoj,_⟩:=mem_ready.1 hj;have hjs:j<ops.size:=(Array.getElem?_eq_some_iff.1 hoj).1;rw [h3s his] at hlj
    by_cases e2:i=j
    ·rw [if_pos e2] at hlj;cases hlj
    ·rw [if_neg e2] at hlj;have:=k0j hs hv hi (i-j) j (by omega) (Nat.le_refl _);rw [j6w (by omega) false true] at this;rw [this] at hlj;cases hlj
   have hfin:j7r P o Q .normal a w:=by
    rcases H2 with H2 | ⟨H2,_⟩
    ·have H3:S w/\wpAnyH P md (g3n ops i o) (j7r P o Q) S fuel (listed.setIfInBounds i true) (a.put o.dst (.bool true)) w:=H2;have e3:a.put o.dst (.bool true)=a:=by rw [hd];rfl
     rw [e3] at H3;have hd2:Region.ready md (g3n ops i o) (listed.setIfInBounds i true)=[]:=by rw [h1u ho];exact hdone
     cases fuel with
     | zero=>exact H3.2.2
     | succ f=>exact H3.2.1 hd2
    ·exfalso
     have h0:=H2.1;have h1:((execOp a.eval (nop o)).runT P w #[]).2=#[]:=rfl;rw [h1] at h0;simp at h0
   refine .inl (j5v (Q:=Q) (K:=fun a' w'=>Q .normal a' w') (fun a' w' hq=>?_) (fun _ _ _ h=>h) id hfin);cases fuel with
   | zero=>exact ⟨hdone,hq⟩
   | succ f=>exact ⟨fun _=>hq,by rw [hdone];intro j hj;cases hj⟩
  ·unfold wpOp at H2 ⊢;rw [g7p e,hoi] at H2;rw [hoi];simp only [h3v ho] at H2;have hnext:∀ a' w',(S w'/\wpAnyH P md (g3n ops n o) (j7r P o Q) S fuel (listed.setIfInBounds i true) a' w')->wpAny P md ops Q fuel (listed.setIfInBounds i true) a' w':=fun a' w' h =>
    ih _ _ _ (hv.set hi) (by rw [h3s his,if_neg e];exact hl) (by have:=p0m (m:=n+1) his (by rw [<- hn,<- hv.size];exact his) hli;omega) h.2
   simp only
   split at H2
   ·rename_i hw
    rw [if_pos hw];exact H2.imp (j5v hnext (fun _ _ _ h=>h) id) id
   ·rename_i hw
    rw [if_neg hw];exact hnext _ _ H2
end
theorem j7n {md:Region.Mode} {ops:Array Oper} {n:Nat}:Inv md ops n (Array.replicate ops.size false) :=
 ⟨by simp,fun j oj _ hl=>by
  rw [Array.getD_eq_getD_getElem?,Array.getElem?_replicate] at hl
  split at hl <;> simp at hl⟩
theorem k9x (listed:Array Bool) (m:Nat):unl listed m<=m:=by
 unfold unl;exact Nat.le_trans (List.length_filter_le _ _) (by simp)
theorem g2b {id:Nat} {Q:Exit->Act->World->Prop} {S:World->Prop} {a:Act} {w:World} {l:List Oper} {o:Oper} (n:Nat) (hm:P.follows .mixedOrders=true) (ho:l.toArray[n]?=some o) (hn:l.length=n+1) (hd:o.dst=none) (hg:o.guard=none)
 (hs:Region.sinkB .any l.toArray n=true) (hb:k8a .any l.toArray=true) (h:∀ w1,w1=w.drew->wpAnyH P .any (l.set n (nop o)).toArray (j7r P o Q) S (n+1) (Array.replicate (n+1) false) a w1):(Code.region id l.toArray true).wp P Q a w:=by
 have hsz:l.toArray.size=n+1:=by simpa using hn
 refine wp_region_any hm ?_;have hl:g3n l.toArray n o=(l.set n (nop o)).toArray:=by simp [g3n]
 refine h7x (S:=S) (n:=n) (o:=o) hsz ho hd hg hs hb _ _ _ _ j7n ?_ (by rw [hsz];exact k9x _ _) ?_
 ·simp [Array.getD_eq_getD_getElem?,hsz]
 ·rw [hl,hsz];exact h _ rfl
theorem tk {P:Program} {md:Region.Mode} {ops:Array Oper} {Q:Exit->Act->World->Prop} {S:World->Prop} (i:Nat) {oi:Oper} {v:Value} {fuel:Nat} {listed:Array Bool} {a:Act} {w:World} (hS:S w)
 (h:wpAnyH P md ops Q S fuel (listed.setIfInBounds i true) (a.put oi.dst v) w) (hi:ops[i]?=some oi:=by rfl) (hs:Region.noSelect ops=true:=by kernel_rfl) (hf:Region.free md ops listed i=true:=by kernel_rfl)
 (hr:(Region.ready md ops listed).contains i=true:=by kernel_rfl) (hQ:∀ c a w,Q (.panic c) (a.put oi.dst v) w->Q (.panic c) a w:=by exact fun _ _ _ h=>h) (hw:Region.wanted oi (yielded ops a.tmps)=true:=by rfl)
 (hy:∀ w,S w->(execOp a.eval oi).run P w=.ok (.value v) w:=by (intro w' hSw;(try dsimp only at hSw);go_simp;(try with_reducible rfl))):wpAnyH P md ops Q S (fuel+1) listed a w :=
 wpAnyH_take hi hs hf hr hQ (.inl ⟨hw,hy⟩) hS h
variable {P:Program}
theorem p3z {l n:Nat} {o:Oper} {a:Act} {w:World} {K:Act->World->Prop} {Q:Exit->Act->World->Prop} (hnd:∀ c,o.op≠.defer c) (h:o.wp P a w K Q):o.wpIn (Fence.wide.inRound l) n P a w K Q:=by
 refine ⟨fun _ _=>trivial,?_⟩;rw [Oper.semAt_eq _ _ _ hnd];unfold Oper.wp at h;generalize (execOp a.eval o).run P w=r at h ⊢;cases r with
 | ok x w' =>
  cases x
  case value v=>exact h
  case skip=>exact h
  case defer d=>exact h
  case enter f args=>exact ⟨fun h=>by simp [Fence.wide] at h,CallsIn.inRound l (callsIn_wide.2 h)⟩
  case row row args=>exact ⟨fun h=>by simp [Fence.wide] at h,fun c cs _=>by
   obtain ⟨v,w2,r,s⟩:=h c cs;exact ⟨v,w2,r,stepsIn_wide.2 s⟩⟩
  all_goals exact h.elim
 | halt x w'=>cases x <;> first | exact h | exact h.elim
theorem p3j {l n:Nat} {md:Region.Mode} {ops:Array Oper} {Q:Exit->Act->World->Prop} (hnd:∀ (i:Nat) (o:Oper),ops[i]?=some o->∀ c,o.op≠.defer c) (hL:¬ LetsOut Q) :
 ∀ (fuel:Nat) (listed:Array Bool) (a:Act) (w:World),wpAny P md ops Q fuel listed a w->wpAnyIn (Fence.wide.inRound l) n P md ops Q fuel listed a w:=by
 intro fuel
 induction fuel with
 | zero=>intro listed a w h;exact h
 | succ fuel ih =>
  intro listed a w h;refine ⟨h.1,fun i hi=>?_⟩;have h2:=h.2 i hi;unfold wpOp at h2;unfold wpOpIn;cases ho:ops[i]? with
  | none=>rw [ho] at h2;exact ih _ _ _ h2
  | some o =>
   rw [ho] at h2;simp only at h2 ⊢
   split at h2
   ·rename_i hw
    rw [if_pos hw];rcases h2 with h2 | ⟨_,h2⟩
    ·exact p3z (hnd i o ho) (Oper.wp_mono (fun a w h=>ih _ _ _ h) h2)
    ·exact absurd h2 hL
   ·rename_i hw
    rw [if_neg hw];exact ⟨fun _ _=>trivial,ih _ _ _ h2⟩
def k1q (ops:Array Oper):Bool:=ops.all fun o=>match o.op with | .defer ..=>false | _=>true
theorem j2c {ops:Array Oper} (h:k1q ops=true):∀ (i:Nat) (o:Oper),ops[i]?=some o->∀ c,o.op≠.defer c:=fun i o ho c e=>by
 have h1:=Array.all_eq_true'.1 h o (Array.mem_of_getElem? ho);rw [e] at h1;cases h1
theorem h6a {ln rn:Nat} {id:Nat} {Q:Exit->Act->World->Prop} {S:World->Prop} {a:Act} {w:World} {l:List Oper} {o:Oper} (n:Nat) (hm:P.follows .mixedOrders=true) (hL:¬ LetsOut Q) (hnd:k1q l.toArray=true) (ho:l.toArray[n]?=some o) (hn:l.length=n+1) (hd:o.dst=none) (hg:o.guard=none)
 (hs:Region.sinkB .any l.toArray n=true) (hb:k8a .any l.toArray=true) (h:∀ w1,w1=w.drew->wpAnyH P .any (l.set n (nop o)).toArray (j7r P o Q) S (n+1) (Array.replicate (n+1) false) a w1):(Code.region id l.toArray true).wpIn (Fence.wide.inRound ln) rn P Q a w:=by
 have hsz:l.toArray.size=n+1:=by simpa using hn
 refine wpIn_region_any hm ?_;refine p3j (j2c hnd) hL _ _ _ _ ?_;have hl:g3n l.toArray n o=(l.set n (nop o)).toArray:=by simp [g3n]
 refine h7x (S:=S) (n:=n) (o:=o) hsz ho hd hg hs hb _ _ _ _ j7n ?_ (by rw [hsz];exact k9x _ _) ?_
 ·simp [Array.getD_eq_getD_getElem?,hsz]
 ·rw [hl,hsz];exact h _ rfl
end Go.Proofs.YtglejnkoojpelaaGreat.Gen

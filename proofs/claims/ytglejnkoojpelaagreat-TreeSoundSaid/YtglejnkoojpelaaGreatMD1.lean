import Derived.WalkKit
import Derived.Maps.RangeWalk
import Derived.Deep.WholeRow
import Derived.Laws.StructEq
import Derived.Laws.CopyOwn
import Derived.Lib.Hide
import Derived.Lib.Walk
import Derived.Test.YtglejnkoojpelaaGreatProg
import Derived.Deep.QuietTactic
import Derived.BigQuiet
import Derived.StillTailTactics
import Derived.Test.YtglejnkoojpelaaGreatMA1
set_option maxRecDepth 100000
set_option maxHeartbeats 32000000
namespace Go.Proofs.YtglejnkoojpelaaGreat.Disk
open Go.RowKit Go.Maps
open Lib (hid)
abbrev Bs:=List UInt8
abbrev g4v (c:UInt8):Value:=.int .u8 (c.toNat:Int)
def secC (l:Bs):Array Value:=(l.map g4v).toArray
def zeros:Bs:=List.replicate 1024 0
theorem g3x:zeros.length=1024:=List.length_replicate
theorem g7h (l:Bs):(secC l).size=l.length:=by simp [secC]
theorem j5u (l:Bs) (k:Nat) (h:k<l.length):(secC l)[k]?=some (g4v l[k]):=by simp [secC,h]
theorem k8o (l:Bs):(secC l).all (·.oneCell')=true:=by
 rw [Array.all_eq_true'];intro x hx;simp only [secC,List.mem_toArray,List.mem_map] at hx;obtain ⟨c,_,rfl⟩:=hx
 rfl
theorem h2x:Tryz.zeroCells110=secC zeros:=by kernel_rfl
theorem k4m {a b:UInt8} (h:g4v a=g4v b):a=b:=by
 injection h with _ h
 exact UInt8.toNat_inj.1 (by omega)
theorem k5v {l m:Bs} (h:secC l=secC m):l=m:=by
 have h2:l.map g4v=m.map g4v:=by simpa [secC] using congrArg Array.toList h
 exact (List.map_inj_right (fun a b=>k4m)).1 h2
def isB:Value->Bool
 | .int .u8 n=>decide (0<=n)&&decide (n<256)
 | _=>false
def byteOf:Value->UInt8
 | .int _ n=>UInt8.ofNat n.toNat
 | _=>0
def SecR:Value->Option (DataW Unit×List MemPlace)
 | .agg cs=>if cs.size=1024/\cs.toList.all isB=true then some (.lit (.string (cs.toList.map byteOf)),[]) else none
 | _=>none
theorem j1m (c:UInt8):byteOf (g4v c)=c:=by simp [byteOf]
theorem j2l {v:Value} (h:isB v=true):g4v (byteOf v)=v:=by
 unfold isB at h
 split at h
 ·simp at h;have e:(UInt8.ofNat (Int.toNat ‹Int›)).toNat=(Int.toNat ‹Int›):=by rw [UInt8.toNat_ofNat'];omega
  simp only [byteOf,g4v];rw [e,Int.toNat_of_nonneg h.1]
 ·cases h
theorem j4f {l:Bs} (h:l.length=1024):SecR (.agg (secC l))=some (.lit (.string l),[]):=by
 have h1:(secC l).toList.all isB=true:=by
  rw [List.all_eq_true];intro x hx;simp only [secC,List.mem_map] at hx;obtain ⟨c,_,rfl⟩:=hx;have:=c.toNat_lt;simp [isB];omega
 have h2:(secC l).toList.map byteOf=l:=by
  simp only [secC,List.map_map]
  conv=>rhs;rw [<- List.map_id l]
  exact List.map_congr_left (fun c _=>j1m c)
 rw [SecR,if_pos ⟨by rw [g7h,h],h1⟩,h2]
theorem h3n {v:Value} {z:DataW Unit×List MemPlace} (h:SecR v=some z):∃ l:Bs,l.length=1024/\v=.agg (secC l)/\z=(.lit (.string l),[]):=by
 unfold SecR at h
 split at h
 ·rename_i cs
  split at h
  ·rename_i hc
   obtain ⟨hs,ha⟩:=hc;refine ⟨cs.toList.map byteOf,by simp [hs],?_,by cases h;rfl⟩
   congr 1
   apply Array.ext';simp only [secC,List.map_map]
   conv=>lhs;rw [<- List.map_id cs.toList]
   exact List.map_congr_left (fun x hx=>(j2l (List.all_eq_true.1 ha x hx)).symm)
  ·cases h
 ·cases h
theorem h0h (l:Bs) (k:Nat) (h:k<l.length) (w:World):(part 5 (secC l) (k*1)).run Tryz.prog w=.ok (g4v l[k]) w:=by
 simp [part,Tryz.isAgg5,Result.andThen,j5u l k h]
theorem g9o (l m:Bs) (d:Nat) (w:World):∀ (ks:List Nat),(∀ k∈ks,k<l.length/\k<m.length) ->
 (forIn (m:=Sem) ks ((none:Option Bool),()) fun i __s=>do
   let x <- part 5 (secC l) (i*1)
   let y <- part 5 (secC m) (i*1)
   let b <- Op.equalIn (d+1) 5 x y
   if (!b)=true then pure (ForInStep.done (some false,())) else pure (ForInStep.yield (none,()))).run Tryz.prog w=.ok (if ∀ k∈ks,l[k]?=m[k]? then none else some false,()) w
 | [],_=>by simp
 | k :: ks,h=>by
  obtain ⟨h1,h2⟩:=h k (List.mem_cons_self ..);have ih:=g9o l m d w ks (fun j hj=>h j (List.mem_cons_of_mem _ hj));simp only [List.forIn_cons,Sem.run_bind,h0h l k h1,h0h m k h2,Result.andThen_ok,run_equalIn_int w d 5 .u8 .u8 _ _ Tryz.underlying5]
  by_cases e:l[k]=m[k]
  ·have e1:(((l[k].toNat:Int))==(m[k].toNat:Int))=true:=by rw [e];simp
   have e2:l[k]?=m[k]?:=by rw [List.getElem?_eq_getElem h1,List.getElem?_eq_getElem h2,e]
   simp only [e1,Bool.not_true,Bool.false_eq_true,if_false,Sem.run_pure,Result.andThen_ok];rw [ih];simp [e2]
  ·have e1:(((l[k].toNat:Int))==(m[k].toNat:Int))=false:=beq_eq_false_iff_ne.2 (fun h=>e (UInt8.toNat_inj.1 (by omega)));have e2:¬ l[k]?=m[k]?:=by rw [List.getElem?_eq_getElem h1,List.getElem?_eq_getElem h2];simpa using e
   simp only [e1,Bool.not_false,if_true,Sem.run_pure,Result.andThen_ok];rw [if_neg (fun h=>e2 (h k (List.mem_cons_self ..)))]
theorem h4r (l m:Bs) (d:Nat) (w:World) (hl:l.length=1024) (hm:m.length=1024):(Op.equalIn (d+2) 110 (.agg (secC l)) (.agg (secC m))).run Tryz.prog w=.ok (decide (l=m)) w:=by
 simp only [Op.equalIn,Sem.run_bind,run_underlying Tryz.underlying110,Result.andThen_ok,Tryz.sizeOf5];have h:=g9o l m d w (List.range' 0 1024) (fun k hk=>by rw [hl,hm];simp at hk;exact ⟨hk,hk⟩);rw [Std.Legacy.Range.forIn_eq_forIn_range'];simp only [Std.Legacy.Range.size,Nat.sub_zero,Nat.add_sub_cancel,Nat.div_one];simp only [Op.equalIn] at h ⊢;rw [h]
 by_cases e:l=m
 ·subst e;simp
 ·have:¬ ∀ k∈List.range' 0 1024,l[k]?=m[k]?:=fun hh=>e (by
   apply List.ext_getElem?;intro k
   by_cases hk:k<1024
   ·exact hh k (by simp;exact hk)
   ·rw [List.getElem?_eq_none (by omega),List.getElem?_eq_none (by omega)])
  rw [if_neg this];simp [e]
theorem h5y (l m:Bs) (w:World) (hl:l.length=1024) (hm:m.length=1024):(binOp .eql 110 (.agg (secC l)) (.agg (secC m))).run Tryz.prog w=.ok (.bool (decide (l=m))) w:=by
 rw [run_eql_struct,h4r l m 9998 w hl hm];rfl
theorem h0t (x y:Operand) (l m:Bs) (w:World):(eqGuard .eql 110 x y (.agg (secC l)) (.agg (secC m))).run Tryz.prog w=.ok () w:=run_eqGuard_agg w .eql _ x y _ _ (by kernel_rfl)
theorem h1n (w:World):(Instr.build 110 #[]).run Tryz.prog w=.ok (.agg (secC zeros)) w:=by
 simp [Instr.build,Tryz.zeroValue110,run_underlying Tryz.underlying110,Tryz.sizeOf5,Result.andThen,Value.cells,Instr.fill,h2x]
section
variable {P:Program} {ops:Array Oper} {rest:List Oper} {o:Oper} {a:Act} {Q:Exit->Act->World->Prop} {w w':World} {v:Value}
theorem g0w (hgd:o.guard=none) (t:TypeId) (x:Operand) (ho:o.op=.box t x) (c:Array Value) (hx:a.eval x=.agg c)
 (h:wpList P ops Q rest (a.put o.dst (.pointer (some ⟨w.heap.size,0,none⟩))) (w.alloc (.cells c t))):wpList P ops Q (o :: rest) a w:=by
 refine wpList_plain hgd fun K hK=>?_
 unfold Oper.wp;have hr:(Instr.box t (.agg c)).run P w=.ok (.pointer (some ⟨w.heap.size,0,none⟩)) (w.alloc (.cells c t)):=by
  simp [Instr.box,newVar,newRow,Value.cells,Result.andThen]
 simp [execOp,ho,hx,hr,Result.andThen];exact hK _ _ h
theorem g4p (hgd:o.guard=none) (t:TypeId) (ho:o.op=.alloc t) (c:Array Value) (hz:(zeroValue t).run P w=.ok (.agg c) w)
 (h:wpList P ops Q rest (a.put o.dst (.pointer (some ⟨w.heap.size,0,none⟩))) (w.alloc (.cells c t))):wpList P ops Q (o :: rest) a w:=by
 refine wpList_plain hgd fun K hK=>?_
 unfold Oper.wp;have hr:(Instr.alloc t true (.tuple #[])).run P w=.ok (.pointer (some ⟨w.heap.size,0,none⟩)) (w.alloc (.cells c t)):=by
  simp [Instr.alloc,hz,newVar,newRow,Value.cells,Result.andThen]
 simp [execOp,ho,hr,Result.andThen];exact hK _ _ h
theorem g0d (hgd:o.guard=none) (t:TypeId) (x:Operand) (ho:o.op=.load t x) (p:Value) (hx:a.eval x=p) (hrun:(Instr.loadAt t p).run P w=.ok v w)
 (h:wpList P ops Q rest (a.put o.dst v) w):wpList P ops Q (o :: rest) a w:=by
 refine wpList_plain hgd fun K hK=>?_
 unfold Oper.wp;simp [execOp,ho,hx,hrun,Result.andThen];exact hK _ _ h
theorem g0b (hgd:o.guard=none) (t:TypeId) (x y:Operand) (ho:o.op=.store t x y) (p u:Value) (hx:a.eval x=p) (hy:a.eval y=u) (hrun:(Instr.storeAt t p u).run P w=.ok () w')
 (h:wpList P ops Q rest (a.put o.dst undef) w'):wpList P ops Q (o :: rest) a w:=by
 refine wpList_plain hgd fun K hK=>?_
 unfold Oper.wp;simp [execOp,ho,hx,hy,hrun,Result.andThen];exact hK _ _ h
theorem g4a (hgd:o.guard=none) (t:TypeId) (x y:Operand) (ok:Bool) (ho:o.op=.lookup t x y ok) (p u:Value) (hx:a.eval x=p) (hy:a.eval y=u) (hrun:(Instr.lookup t p u ok).run P w=.ok v w)
 (h:wpList P ops Q rest (a.put o.dst v) w):wpList P ops Q (o :: rest) a w:=by
 refine wpList_plain hgd fun K hK=>?_
 unfold Oper.wp;simp [execOp,ho,hx,hy,hrun,Result.andThen];exact hK _ _ h
theorem g2x (hgd:o.guard=none) (t:TypeId) (x y z:Operand) (ho:o.op=.mapUpdate t x y z) (p u q:Value) (hx:a.eval x=p) (hy:a.eval y=u) (hz:a.eval z=q) (hrun:(Instr.mapUpdate t p u q).run P w=.ok () w')
 (h:wpList P ops Q rest (a.put o.dst undef) w'):wpList P ops Q (o :: rest) a w:=by
 refine wpList_plain hgd fun K hK=>?_
 unfold Oper.wp;simp [execOp,ho,hx,hy,hz,hrun,Result.andThen];exact hK _ _ h
theorem g7t (hgd:o.guard=none) (t k:TypeId) (x y:Operand) (ho:o.op=.call {callee:=.builtin .delete,args:=#[x,y],argTypes:=#[t,k]}) (p u:Value) (hx:a.eval x=p) (hy:a.eval y=u)
 (hrun:(Builtin.delete_ #[t,k] o.type #[p,u]).run P w=.ok (.tuple #[]) w') (h:wpList P ops Q rest (a.put o.dst (.tuple #[])) w'):wpList P ops Q (o :: rest) a w:=by
 refine wpList_plain hgd fun K hK=>?_
 unfold Oper.wp;simp [execOp,ho,resolve,invoke,builtin,hx,hy,hrun,Result.andThen];exact hK _ _ h
theorem g8f (hgd:o.guard=none) (t:TypeId) (x:Operand) (ho:o.op=.call {callee:=.builtin .clear,args:=#[x],argTypes:=#[t]}) (p:Value) (hx:a.eval x=p)
 (hrun:(Builtin.clear_ #[t] o.type #[p]).run P w=.ok (.tuple #[]) w') (h:wpList P ops Q rest (a.put o.dst (.tuple #[])) w'):wpList P ops Q (o :: rest) a w:=by
 refine wpList_plain hgd fun K hK=>?_
 unfold Oper.wp;simp [execOp,ho,resolve,invoke,builtin,hx,hrun,Result.andThen];exact hK _ _ h
theorem g8t (hgd:o.guard=none) (op:BinOp) (t t':TypeId) (x y:Operand) (ho:o.op=.binOp op t x y t') (p u:Value) (hx:a.eval x=p) (hy:a.eval y=u) (hg:(eqGuard op t x y p u).run P w=.ok () w) (hrun:(binOp op t p u).run P w=.ok v w)
 (h:wpList P ops Q rest (a.put o.dst v) w):wpList P ops Q (o :: rest) a w:=by
 refine wpList_plain hgd fun K hK=>?_
 unfold Oper.wp;simp [execOp,ho,hx,hy,hg,hrun,Result.andThen];exact hK _ _ h
theorem g8o (hgd:o.guard=none) (t:TypeId) (ho:o.op=.build t #[]) (hrun:(Instr.build t #[]).run P w=.ok v w)
 (h:wpList P ops Q rest (a.put o.dst v) w):wpList P ops Q (o :: rest) a w:=by
 refine wpList_plain hgd fun K hK=>?_
 unfold Oper.wp;simp [execOp,ho,hrun,Result.andThen];exact hK _ _ h
end
abbrev keyL (x:Int):Lit:=.int .i64 x
abbrev zd:DataW Unit:=.lit (.string zeros)
def textOf:DataW Unit->Bs
 | .lit (.string l)=>l
 | _=>[]
def look (D:DataW Unit) (x:Int):Option Bs:=if Maps.has D (keyL x) then some (textOf (D.atKey (keyL x) zd)) else none
def upd (f:Int->Option Bs) (n:Int) (v:Option Bs):Int->Option Bs:=fun x=>if x=n then v else f x
theorem upd_same (f:Int->Option Bs) (n:Int) (v:Option Bs):upd f n v n=v:=by simp [upd]
theorem g6e (f:Int->Option Bs) {n x:Int} (v:Option Bs) (h:x≠n):upd f n v x=f x:=by simp [upd,h]
structure SMap (w:World) (b N:Nat) (f:Int->Option Bs):Prop where
 own:∃ D n,w.ownsMap Tryz.prog 3 SecR b n D/\(∀ x,look D x=f x)/\∀ kl,Maps.has D kl=true->∃ x:Int,kl=keyL x/\0<=x/\x<N
 fit:∀ x l,f x=some l->0<=x/\x<N/\l.length=1024
theorem g3t:Keyed Tryz.prog 3:=int_keyed Tryz.underlying3
theorem keyWf {x:Int} (h0:-9223372036854775808<=x) (h1:x<=9223372036854775807):keyOf Tryz.prog 3 (.int .i64 x)=some (keyL x):=keyOf_int_mk Tryz.underlying3 (WalkArith.wf_i64 (by omega))
theorem isKey (x:Int):WideAt.IsKeyLit (keyL x):=by simp [WideAt.IsKeyLit]
theorem g9t {x y:Int} (h:x≠y):keyL x≠keyL y:=fun e=>h (by injection e)
theorem SMap.made (w:World) (N:Nat):SMap (w.alloc (.map #[] 0)) w.heap.size N (fun _=>none) :=
 ⟨⟨.map [],0,World.ownsMap_made w _ _ _,fun x=>by simp [look,Maps.has],fun kl h=>by simp [Maps.has] at h⟩,fun _ _ h=>by cases h⟩
theorem SMap.lt {w:World} {b N:Nat} {f:Int->Option Bs} (h:SMap w b N f):b<w.heap.size:=by
 obtain ⟨D,n,h1,_⟩:=h.own;exact h1.lt
theorem SMap.of_block {w w':World} {b N:Nat} {f:Int->Option Bs} (h:SMap w b N f) (e:w'.heap[b]?=w.heap[b]?):SMap w' b N f:=by
 obtain ⟨D,n,⟨es,c,hb,r⟩,h2⟩:=h.own;exact ⟨⟨D,n,⟨es,c,e.trans hb,r⟩,h2⟩,h.fit⟩
theorem SMap.kept {w w':World} {row:Option Nat} {b N:Nat} {f:Int->Option Bs} (h:SMap w b N f) (hg:w.grownBy w' row) (hne:some b≠row):SMap w' b N f:=h.of_block (hg.block b h.lt hne)
theorem SMap.isMap {w:World} {b N:Nat} {f:Int->Option Bs} (h:SMap w b N f):∃ es c,w.heap[b]?=some (.map es c):=by
 obtain ⟨D,n,⟨es,c,hb,_⟩,_⟩:=h.own;exact ⟨es,c,hb⟩
theorem h6v {w:World} {b n:Nat} {D:DataW Unit} (h:w.ownsMap Tryz.prog 3 SecR b n D) (x:Int) (h0:-9223372036854775808<=x) (h1:x<=9223372036854775807) :
 ∃ l,l.length=1024/\D.atKey (keyL x) zd=.lit (.string l)/\(look D x).getD zeros=l/\(look D x).isSome=Maps.has D (keyL x) /\
  (Instr.lookup 112 (.map (some b)) (.int .i64 x) true).run Tryz.prog w=.ok (.tuple #[.agg (secC l),.bool (Maps.has D (keyL x))]) w /\
  (Instr.lookup 112 (.map (some b)) (.int .i64 x) false).run Tryz.prog w=.ok (.agg (secC l)) w:=by
 have hz:(zeroValue 110).run Tryz.prog w=.ok (.agg (secC zeros)) w:=by rw [Tryz.zeroValue110,h2x]
 obtain ⟨v,ps,hrun,hv⟩:=h.look_ok g3t Tryz.underlying112 hz (j4f g3x) (keyWf h0 h1);obtain ⟨v',ps',hrun',hv'⟩:=h.lookup g3t Tryz.underlying112 hz (j4f g3x) (keyWf h0 h1);obtain ⟨l,hl,rfl,e⟩:=h3n hv;obtain ⟨l',hl',rfl,e'⟩:=h3n hv';have e:=congrArg Prod.fst e;have e':=congrArg Prod.fst e';simp only at e e';obtain rfl:l=l':=congrArg textOf (e.symm.trans e');refine ⟨l,hl,e,?_,?_,hrun,hrun'⟩
 ·unfold look;cases hh:Maps.has D (keyL x)
  ·rw [Maps.atKey_of_not_has hh] at e;have e3:=congrArg textOf e;simp only [Bool.false_eq_true,if_false,Option.getD_none];exact e3
  ·simp only [if_true,Option.getD_some];rw [e];rfl
 ·unfold look;cases Maps.has D (keyL x) <;> simp
theorem SMap.lookup {w:World} {b N:Nat} {f:Int->Option Bs} (h:SMap w b N f) (x:Int) (h0:-9223372036854775808<=x) (h1:x<=9223372036854775807) :
 (Instr.lookup 112 (.map (some b)) (.int .i64 x) false).run Tryz.prog w=.ok (.agg (secC ((f x).getD zeros))) w:=by
 obtain ⟨D,n,ho,hf,_⟩:=h.own;obtain ⟨l,hl,e,e1,e2,r1,r2⟩:=h6v ho x h0 h1;rw [<- hf,e1];exact r2
theorem SMap.lookup_ok {w:World} {b N:Nat} {f:Int->Option Bs} (h:SMap w b N f) (x:Int) (h0:-9223372036854775808<=x) (h1:x<=9223372036854775807) :
 (Instr.lookup 112 (.map (some b)) (.int .i64 x) true).run Tryz.prog w=.ok (.tuple #[.agg (secC ((f x).getD zeros)),.bool (f x).isSome]) w:=by
 obtain ⟨D,n,ho,hf,_⟩:=h.own;obtain ⟨l,hl,e,e1,e2,r1,r2⟩:=h6v ho x h0 h1;rw [<- hf,e1,e2];exact r1
theorem SMap.getD_len {w:World} {b N:Nat} {f:Int->Option Bs} (h:SMap w b N f) (x:Int):((f x).getD zeros).length=1024:=by
 cases e:f x with
 | none=>exact g3x
 | some l=>exact (h.fit x l e).2.2
theorem few:∀ (N:Nat) (l:List Nat),l.Nodup->(∀ x∈l,x<N)->l.length<=N
 | 0,[],_,_=>Nat.le_refl _
 | 0,x :: l,_,h=>absurd (h x (List.mem_cons_self ..)) (by omega)
 | N+1,l,hn,h=>by
  have h1:(l.erase N).length<=N:=few N (l.erase N) (hn.erase N) (fun x hx=>by
   have h2:=h x (List.mem_of_mem_erase hx);have h3:x≠N:=fun e=>by subst e;exact (List.Nodup.not_mem_erase hn) hx
   omega)
  have h2:=List.length_erase_le (a:=N) (l:=l);have h3:l.length<=(l.erase N).length+1:=by
   rw [List.length_erase];split <;> omega
  omega
theorem SMap.size {w:World} {b N:Nat} {f:Int->Option Bs} (h:SMap w b N f):∃ D,w.ownsMap Tryz.prog 3 SecR b N D/\Maps.size D<=N/\(∀ x,look D x=f x)/\∀ kl,Maps.has D kl=true->∃ x:Int,kl=keyL x/\0<=x/\x<N:=by
 obtain ⟨D,n,ho,hf,hk⟩:=h.own;obtain ⟨es,rfl,hp,_⟩:=ho.entries g3t;have hsz:es.length<=N:=by
  have hx:∀ p∈es,∃ x:Int,p.1=keyL x/\0<=x/\x<N:=fun p hp=>by
   have h2:Maps.has (DataW.map es) p.1=true:=List.any_eq_true.2 ⟨p,hp,WideAt.sameKey_self (by
    obtain ⟨es',e,_,hk'⟩:=ho.entries g3t
    injection e with e
    exact hk' p (by rw [<- e];exact hp))⟩
   exact hk _ h2
  have:=few N (es.map fun p=>match p.1 with | .int _ x=>x.toNat | _=>0) ?_ ?_
  ·simpa using this
  ·rw [List.Nodup,List.pairwise_map];refine List.Pairwise.imp_of_mem (fun {p q} hp hq hne=>?_) hp;obtain ⟨x,e1,_,_⟩:=hx p hp;obtain ⟨y,e2,_,_⟩:=hx q hq;rw [e1,e2] at hne ⊢
   exact fun e => hne (by have : x = y := by simp at e; omega
                          rw [this])
  ·intro k hkm;obtain ⟨p,hp,rfl⟩:=List.mem_map.1 hkm;obtain ⟨x,e1,_,_⟩:=hx p hp;rw [e1];simp;omega
 refine ⟨.map es,?_,hsz,hf,hk⟩;obtain ⟨es',c,hb,F,hs,hD⟩:=ho;refine ⟨es',c,hb,F,?_,hD⟩
 injection hD with hD
 rw [hD,length_sorted] at hsz
 simpa using hsz
theorem SMap.store {w:World} {b N:Nat} {f:Int->Option Bs} (h:SMap w b N f) (hN:N<=4096) (x:Int) (h0:0<=x) (h1:x<N) (l:Bs) (hl:l.length=1024) :
 ∃ w',(Instr.mapUpdate 112 (.map (some b)) (.int .i64 x) (.agg (secC l))).run Tryz.prog w=.ok () w'/\SMap w' b N (upd f x (some l))/\w.grownBy w' (some b):=by
 obtain ⟨D,ho,_,hf,hk⟩:=h.size;obtain ⟨w',hrun,ho',hg⟩:=ho.update g3t Tryz.underlying112 (by unfold maxLen;omega) (keyWf (x:=x) (by omega) (by omega)) (j4f hl);refine ⟨w',hrun,⟨⟨_,_,ho',fun y=>?_,fun kl hkl=>?_⟩,fun y m hy=>?_⟩,hg⟩
 ·by_cases e:y=x
  ·subst e;rw [upd_same];unfold look;rw [Maps.has_put_same ho.isMap (isKey y),Maps.atKey_put_same ho.isMap (isKey y)]
   rfl
  ·rw [g6e _ _ e,<- hf];unfold look;rw [Maps.has_put_other (g9t e),Maps.atKey_put_other (g9t e)]
 ·by_cases e:kl=keyL x
  ·exact ⟨x,e,h0,h1⟩
  ·rw [Maps.has_put_other e] at hkl;exact hk kl hkl
 ·by_cases e:y=x
  ·subst e;rw [upd_same] at hy;cases hy;exact ⟨h0,h1,hl⟩
  ·rw [g6e _ _ e] at hy;exact h.fit y m hy
theorem SMap.drop {w:World} {b N:Nat} {f:Int->Option Bs} (h:SMap w b N f) (x:Int) (h0:-9223372036854775808<=x) (h1:x<=9223372036854775807) (ty:TypeId) :
 ∃ w',(Builtin.delete_ #[112,3] ty #[.map (some b),.int .i64 x]).run Tryz.prog w=.ok (.tuple #[]) w'/\SMap w' b N (upd f x none)/\w.grownBy w' (some b):=by
 obtain ⟨D,n,ho,hf,hk⟩:=h.own;obtain ⟨w',hrun,ho',hg⟩:=ho.drop g3t Tryz.underlying112 (keyWf (x:=x) h0 h1) ty;refine ⟨w',hrun,⟨⟨_,_,ho',fun y=>?_,fun kl hkl=>?_⟩,fun y m hy=>?_⟩,hg.grown⟩
 ·by_cases e:y=x
  ·subst e;rw [upd_same];unfold look;rw [Maps.has_del_same];rfl
  ·rw [g6e _ _ e,<- hf];unfold look;rw [Maps.has_del_other (g9t e),Maps.atKey_del_other (g9t e)]
 ·by_cases e:kl=keyL x
  ·subst e;rw [Maps.has_del_same] at hkl;cases hkl
  ·rw [Maps.has_del_other e] at hkl;exact hk kl hkl
 ·by_cases e:y=x
  ·subst e;rw [upd_same] at hy;cases hy
  ·rw [g6e _ _ e] at hy;exact h.fit y m hy
theorem SMap.clear {w:World} {b N:Nat} {f:Int->Option Bs} (h:SMap w b N f) (ty:TypeId) :
 ∃ w',(Builtin.clear_ #[112] ty #[.map (some b)]).run Tryz.prog w=.ok (.tuple #[]) w'/\SMap w' b N (fun _=>none)/\w.grownBy w' (some b):=by
 obtain ⟨es,c,hb⟩:=h.isMap;refine ⟨ChangeMaps.setBlock w b (.map #[] c),?_,⟨⟨.map [],0,⟨#[],c,ChangeMaps.heap_setBlock_same hb _,⟨by simp,MapKept.stamped_empty c,by simp⟩,Nat.le_refl _,rfl⟩,fun x=>by simp [look,Maps.has],fun kl h=>by simp [Maps.has] at h⟩,fun _ _ h=>by cases h⟩,
  ⟨rfl,rfl,rfl,by simp [ChangeMaps.setBlock],fun i _ hi=>ChangeMaps.heap_setBlock_other hb _ (fun e=>hi (by rw [e]))⟩⟩
 simp [Builtin.clear_,run_underlying Tryz.underlying112,MapKept.run_getObj_map hb,MapKept.run_setObj_map _ hb,Result.andThen,ChangeMaps.setBlock]
structure Mod (S:List Nat) (w w':World):Prop where
 os:w'.os=w.os
 tape:w'.tape=w.tape
 output:w'.output=w.output
 size:w.heap.size<=w'.heap.size
 block:∀ k,k<w.heap.size->k∉S->w'.heap[k]?=w.heap[k]?
theorem Mod.refl (S:List Nat) (w:World):Mod S w w:=⟨rfl,rfl,rfl,Nat.le_refl _,fun _ _ _=>rfl⟩
theorem Mod.trans {S:List Nat} {a b c:World} (h:Mod S a b) (k:Mod S b c):Mod S a c :=
 ⟨k.os.trans h.os,k.tape.trans h.tape,k.output.trans h.output,Nat.le_trans h.size k.size,fun i hi hn=>(k.block i (Nat.lt_of_lt_of_le hi h.size) hn).trans (h.block i hi hn)⟩
theorem Mod.mono {S T:List Nat} {w w':World} (h:Mod S w w') (hs:∀ x∈S,x∈T):Mod T w w':=⟨h.os,h.tape,h.output,h.size,fun k hk hn=>h.block k hk (fun e=>hn (hs k e))⟩
theorem Mod.grown {S:List Nat} {a w w':World} {row:Option Nat} (h:Mod S a w) (hg:w.grownBy w' row) (hr:∀ k,row=some k->k∈S\/a.heap.size<=k):Mod S a w' :=
 ⟨hg.os.trans h.os,hg.tape.trans h.tape,hg.output.trans h.output,Nat.le_trans h.size hg.size,fun i hi hn=>(hg.block i (Nat.lt_of_lt_of_le hi h.size) (fun e=>by
  rcases hr i e.symm with h1 | h1
  ·exact hn h1
  ·omega)).trans (h.block i hi hn)⟩
theorem Mod.alloc {S:List Nat} {a w:World} (h:Mod S a w) (o:Obj):Mod S a (w.alloc o):=h.grown (World.grownBy_alloc w o none) (fun k e=>by cases e)
theorem Mod.setCell {S:List Nat} {a w:World} (h:Mod S a w) (p:Addr) (u:Value) (hp:p.block∈S\/a.heap.size<=p.block):Mod S a (w.setCell p u) :=
 ⟨h.os,h.tape,h.output,by simpa using h.size,fun i hi hn=>by
  have hne:i≠p.block:=fun e=>by
   subst e;rcases hp with h1 | h1
   ·exact hn h1
   ·omega
  rw [Below.heap_setCell _ _ _ _ hne];exact h.block i hi hn⟩
theorem Mod.drew {S:List Nat} {a w:World} (h:Mod S a w):Mod S a w.drew:=⟨h.os,h.tape,h.output,h.size,h.block⟩
theorem Mod.below {S:List Nat} {w w':World} {B:Nat} (h:Mod S w w') (hB:B<=w.heap.size) (hS:∀ k∈S,B<=k):Below B w w' :=
 ⟨h.os,h.tape,h.output,h.size,fun k hk=>h.block k (Nat.lt_of_lt_of_le hk hB) (fun e=>by have:=hS k e;omega)⟩
theorem Mod.of_below {w w':World} (S:List Nat) (h:Below w.heap.size w w'):Mod S w w':=⟨h.os,h.tape,h.output,h.size,fun k hk _=>h.block k hk⟩
theorem Mod.cell {S:List Nat} {w w':World} (h:Mod S w w') {p:Addr} (hp:p.block<w.heap.size) (hn:p.block∉S):w'.cell? p=w.cell? p:=World.cell?_of_block (w:=w) (h.block p.block hp hn)
structure St where
 n:Nat
 L:Int->Option Bs
 C:Int->Option Bs
 off:Bool
 fused:Bool
 fuse:Int
abbrev devC (s:St) (bl bc:Nat):Array Value:=#[.int .i64 (s.n:Int),.map (some bl),.map (some bc),.bool s.off,.bool s.fused,.int .i64 s.fuse]
structure Dev (w:World) (sb bl bc:Nat) (s:St):Prop where
 box:w.heap[sb]?=some (.cells (devC s bl bc) 114 (0,0))
 last:SMap w bl s.n s.L
 cache:SMap w bc s.n s.C
 ne:bl≠bc
 nz:∀ x,s.L x≠some zeros
 nle:s.n<=4096
 f0:0<=s.fuse
 f1:s.fuse<=9223372036854775807
theorem Dev.lt {w:World} {sb bl bc:Nat} {s:St} (h:Dev w sb bl bc s):sb<w.heap.size:=(Array.getElem?_eq_some_iff.1 h.box).1
theorem Dev.sbl {w:World} {sb bl bc:Nat} {s:St} (h:Dev w sb bl bc s):sb≠bl:=fun e=>by
 obtain ⟨es,c,hb⟩:=h.last.isMap;have:=h.box;rw [e,hb] at this;cases this
theorem Dev.sbc {w:World} {sb bl bc:Nat} {s:St} (h:Dev w sb bl bc s):sb≠bc:=fun e=>by
 obtain ⟨es,c,hb⟩:=h.cache.isMap;have:=h.box;rw [e,hb] at this;cases this
theorem Dev.cells {w:World} {sb bl bc:Nat} {s:St} (h:Dev w sb bl bc s):w.cell? ⟨sb,0,none⟩=some (.int .i64 (s.n:Int))/\w.cell? ⟨sb,1,none⟩=some (.map (some bl))/\w.cell? ⟨sb,2,none⟩=some (.map (some bc)) /\
 w.cell? ⟨sb,3,none⟩=some (.bool s.off)/\w.cell? ⟨sb,4,none⟩=some (.bool s.fused)/\w.cell? ⟨sb,5,none⟩=some (.int .i64 s.fuse):=by
 have hc:=fun j=>cell_of_row w sb j _ _ _ h.box
 exact ⟨hc 0,hc 1,hc 2,hc 3,hc 4,hc 5⟩
theorem Dev.free {w:World} {sb bl bc:Nat} {s:St} (h:Dev w sb bl bc s) (j:Nat):w.frozen? ⟨sb,j,none⟩=false:=frozen_of_row _ _ _ _ _ h.box
theorem Dev.kept {w w':World} {sb bl bc:Nat} {s:St} (h:Dev w sb bl bc s) {S:List Nat} (m:Mod S w w') (h1:sb∉S) (h2:bl∉S) (h3:bc∉S):Dev w' sb bl bc s :=
 ⟨(m.block _ h.lt h1).trans h.box,h.last.of_block (m.block _ h.last.lt h2),h.cache.of_block (m.block _ h.cache.lt h3),h.ne,h.nz,h.nle,h.f0,h.f1⟩
theorem Dev.below {w w':World} {sb bl bc:Nat} {s:St} (h:Dev w sb bl bc s) (b:Below w.heap.size w w'):Dev w' sb bl bc s:=h.kept (Mod.of_below [] b) (by simp) (by simp) (by simp)
theorem g5n {w:World} {b:Nat} {cs:Array Value} {t:TypeId} (h:w.heap[b]?=some (.cells cs t (0,0))) (i:Nat) (v:Value):(w.setCell ⟨b,i,none⟩ v).heap[b]?=some (.cells (cs.setIfInBounds i v) t (0,0)):=by
 rw [heap_setCell_same w b i cs t v h]
def St.has (s:St) (n:Int):Bool:=decide (0<=n)&&decide (n<(s.n:Int))
def St.actE (s:St):Int:=if s.fused&&s.fuse==0 then 40 else 0
def St.act (s:St):St:=if s.fused then (if s.fuse=0 then {s with off:=true,fused:=false} else {s with fuse:=s.fuse-1}) else s
def St.lay (s:St) (n:Int) (l:Bs):St:={s with L:=upd s.L n (if l=zeros then none else some l)}
def St.awE (s:St):Int:=if s.off then 40 else 0
def St.get (s:St) (n:Int):Bs:=(s.C n).getD ((s.L n).getD zeros)
def pad (l:Bs):Bs:=l++List.replicate (1024-l.length) 0
theorem g8m {l:Bs} (h:l.length<=1024):(pad l).length=1024:=by simp [pad];omega
theorem k4w (s:St):s.actE=0\/s.actE=40:=by unfold St.actE;split <;> simp
abbrev ptr (sb:Nat):Value:=.pointer (some ⟨sb,0,none⟩)
theorem g3i (w:World) (sb bl bc:Nat) (s:St) (h:Dev w sb bl bc s):Calls Tryz.prog 160 #[ptr sb] w fun e w'=>e=.returned (.int .i64 s.awE)/\w=w':=by
 obtain ⟨c0,c1,c2,c3,c4,c5⟩:=h.cells;clear h c0 c1 c2 c4 c5;unfold St.awE;cases ho:s.off
 ·rw [ho] at c3;clear ho;go_enter Tryz.func160,Tryz.ntmps160
  go_wp2_with fail
  go_ret
  exact ⟨rfl,rfl⟩
 ·rw [ho] at c3;clear ho;go_enter Tryz.func160,Tryz.ntmps160
  go_wp2_with fail
  go_ret
  exact ⟨rfl,rfl⟩
theorem h2o (w:World) (sb bl bc:Nat) (s:St) (n:Int) (h:Dev w sb bl bc s):Calls Tryz.prog 83 #[ptr sb,.int .i64 n] w fun e w'=>e=.returned (.bool (s.has n))/\w=w':=by
 obtain ⟨c0,c1,c2,c3,c4,c5⟩:=h.cells;clear h c1 c2 c3 c4 c5;unfold St.has
 by_cases h0:0<=n
 ·by_cases h1:n<(s.n:Int)
  ·have b0:decide (0<=n)=true:=by simpa using h0
   have b1:decide (n<(s.n:Int))=true:=by simpa using h1
   go_enter Tryz.func83,Tryz.ntmps83
   go_wp2_with fail
   go_ret
   exact ⟨by rw [b0,b1];rfl,rfl⟩
  ·have b0:decide (0<=n)=true:=by simpa using h0
   have b1:decide (n<(s.n:Int))=false:=by simpa using h1
   go_enter Tryz.func83,Tryz.ntmps83
   go_wp2_with fail
   go_ret
   exact ⟨rfl,rfl⟩
 ·have b0:decide (0<=n)=false:=by simpa using h0
  go_enter Tryz.func83,Tryz.ntmps83
  go_wp2_with fail
  go_ret
  exact ⟨rfl,rfl⟩
theorem Dev.gone {w:World} {sb bl bc:Nat} {s:St} (h:Dev w sb bl bc s):Dev ((w.setCell ⟨sb,3,none⟩ (.bool true)).setCell ⟨sb,4,none⟩ (.bool false)) sb bl bc {s with off:=true,fused:=false}:=by
 have h1:=g5n (g5n h.box 3 (.bool true)) 4 (.bool false);refine ⟨h1,h.last.of_block ?_,h.cache.of_block ?_,h.ne,h.nz,h.nle,h.f0,h.f1⟩
 ·rw [Below.heap_setCell _ _ _ _ h.sbl.symm,Below.heap_setCell _ _ _ _ h.sbl.symm]
 ·rw [Below.heap_setCell _ _ _ _ h.sbc.symm,Below.heap_setCell _ _ _ _ h.sbc.symm]
theorem Dev.less {w:World} {sb bl bc:Nat} {s:St} (h:Dev w sb bl bc s) (h0:0<s.fuse):Dev (w.setCell ⟨sb,5,none⟩ (.int .i64 (s.fuse-1))) sb bl bc {s with fuse:=s.fuse-1}:=by
 have h1:=g5n h.box 5 (.int .i64 (s.fuse-1));have:=h.f1;refine ⟨h1,h.last.of_block ?_,h.cache.of_block ?_,h.ne,h.nz,h.nle,by simp;omega,by simp;omega⟩
 ·rw [Below.heap_setCell _ _ _ _ h.sbl.symm]
 ·rw [Below.heap_setCell _ _ _ _ h.sbc.symm]
theorem k5z (w:World) (sb bl bc:Nat) (s:St) (h:Dev w sb bl bc s) (hf:s.fused=false):Calls Tryz.prog 161 #[ptr sb] w fun e w'=>e=.returned (.int .i64 0)/\w=w':=by
 obtain ⟨c0,c1,c2,c3,c4,c5⟩:=h.cells;rw [hf] at c4;clear h c0 c1 c2 c3 c5 hf;go_enter Tryz.func161,Tryz.ntmps161
 go_wp2_with fail
 go_ret
 exact ⟨rfl,rfl⟩
theorem p1m (w:World) (sb bl bc:Nat) (s:St) (h:Dev w sb bl bc s) (hf:s.fused=true) (hz:s.fuse=0):Calls Tryz.prog 161 #[ptr sb] w fun e w'=>e=.returned (.int .i64 40)/\w'=(w.setCell ⟨sb,3,none⟩ (.bool true)).setCell ⟨sb,4,none⟩ (.bool false):=by
 obtain ⟨c0,c1,c2,c3,c4,c5⟩:=h.cells;have f3:=h.free 3;have f4:=h.free 4;rw [hf] at c4;rw [hz] at c5;clear h c0 c1 c2 hf hz;go_enter Tryz.func161,Tryz.ntmps161
 go_wp2_with fail
 go_ret
 exact ⟨rfl,rfl⟩
theorem k7v (w:World) (sb bl bc:Nat) (s:St) (h:Dev w sb bl bc s) (hf:s.fused=true) (hz:0<s.fuse):Calls Tryz.prog 161 #[ptr sb] w fun e w'=>e=.returned (.int .i64 0)/\w'=w.setCell ⟨sb,5,none⟩ (.int .i64 (s.fuse-1)):=by
 obtain ⟨c0,c1,c2,c3,c4,c5⟩:=h.cells;have f5:=h.free 5;have h1:=h.f1;rw [hf] at c4;have hz':(s.fuse==0)=false:=by simp;omega
 clear h c0 c1 c2 c3 hf;generalize s.fuse=k at *;go_enter Tryz.func161,Tryz.ntmps161
 go_wp2_with fail
 go_ret
 exact ⟨rfl,rfl⟩
theorem h9a (w:World) (sb bl bc:Nat) (s:St) (h:Dev w sb bl bc s):Calls Tryz.prog 161 #[ptr sb] w fun e w'=>e=.returned (.int .i64 s.actE)/\Dev w' sb bl bc s.act/\Mod [sb,bl,bc] w w':=by
 have h0:=h.f0;cases hf:s.fused
 ·refine (k5z w sb bl bc s h hf).mono ?_;rintro e w' ⟨rfl,rfl⟩;exact ⟨by simp [St.actE,hf],by simpa [St.act,hf] using h,Mod.refl _ _⟩
 ·by_cases hz:s.fuse=0
  ·refine (p1m w sb bl bc s h hf hz).mono ?_;rintro e w' ⟨rfl,rfl⟩;refine ⟨by simp [St.actE,hf,hz],?_,((Mod.refl _ _).setCell _ _ (.inl (by simp))).setCell _ _ (.inl (by simp))⟩;rw [St.act,hf,if_pos rfl,if_pos hz];exact h.gone
  ·refine (k7v w sb bl bc s h hf (by omega)).mono ?_;rintro e w' ⟨rfl,rfl⟩;refine ⟨by simp [St.actE,hz],?_,(Mod.refl _ _).setCell _ _ (.inl (by simp))⟩;rw [St.act,hf,if_pos rfl,if_neg hz,<- hf];exact h.less (by omega)
theorem j5g (c:Array Value) (w:World):Calls Tryz.prog 201 #[.agg c] w fun e w'=>e=.returned (.slice (some ⟨w.heap.size,0,none⟩) 1024 1024)/\w'=w.alloc (.cells c 110):=by
 go_enter Tryz.func201,Tryz.ntmps201
 go_wp2_with (refine g0w rfl _ _ rfl c rfl ?_)
 go_ret
 exact ⟨rfl,rfl⟩
def St.fresh (n:Nat):St:={n:=n,L:=fun _=>none,C:=fun _=>none,off:=false,fused:=false,fuse:=0}
theorem k6y (n:Nat) (w:World) (h0:2<=n) (h1:n<=4096):Calls Tryz.prog 53 #[.int .i64 (n:Int)] w fun e w'=>e=.returned (.tuple #[ptr (w.heap.size+2),.int .i64 0]) /\
 w'=((w.alloc (.map #[] 0)).alloc (.map #[] 0)).alloc (.cells (devC (St.fresh n) w.heap.size (w.heap.size+1)) 114):=by
 have b0:decide ((n:Int)<2)=false:=by simp;omega
 have b1:decide (4096<(n:Int))=false:=by simp;omega
 have hmm:=@run_makeMap Tryz.prog;go_enter Tryz.func53,Tryz.ntmps53
 go_wp2_with fail
 go_ret2
 exact ⟨rfl,rfl⟩
theorem p0w (n:Nat) (w:World) (h0:2<=n) (h1:n<=4096):Calls Tryz.prog 53 #[.int .i64 (n:Int)] w fun e w'=>e=.returned (.tuple #[ptr (w.heap.size+2),.int .i64 0]) /\
 Dev w' (w.heap.size+2) w.heap.size (w.heap.size+1) (St.fresh n)/\Below w.heap.size w w':=by
 refine (k6y n w h0 h1).mono ?_;rintro e w' ⟨rfl,rfl⟩;have m1:SMap (w.alloc (.map #[] 0)) w.heap.size n (fun _=>none):=SMap.made w n;have m2:SMap ((w.alloc (.map #[] 0)).alloc (.map #[] 0)) (w.heap.size+1) n (fun _=>none):=by simpa using SMap.made (w.alloc (.map #[] 0)) n
 refine ⟨rfl,⟨by simpa using heap_alloc_last ((w.alloc (.map #[] 0)).alloc (.map #[] 0)) _,?_,?_,by simp,(fun x h=>by cases h),h1,Int.le_refl _,by simp [St.fresh]⟩,?_⟩
 ·exact (m1.kept (World.grownBy_alloc _ _ none) (by simp)).kept (World.grownBy_alloc _ _ none) (by simp)
 ·exact m2.kept (World.grownBy_alloc _ _ none) (by simp)
 ·exact (((Below.refl _ _).alloc (Nat.le_refl _) _).alloc (by simp) _).alloc (by simp;omega) _
theorem h4x {P:Program} {id:Nat} {Q:Exit->Act->World->Prop} {a:Act} {w:World} {l:List Oper} (n:Nat) (hm:P.follows .mixedOrders=true) (hB:Region.lexTailB .any l.toArray n=true)
 (h:∀ w1,w1=w.drew->wpStill P l.toArray w1 (fun a'=>wpList P l.toArray Q (l.drop n) a' w1) (l.take n) a):(Code.region id l.toArray true).wp P Q a w:=wp_region_still_tail n hm hB (h _ rfl)
theorem g8l {P:Program} {ops:Array Oper} {rest:List Oper} {o:Oper} {a:Act} {Q:Act->Prop} {w:World} {v:Value} (hgd:o.guard=none) (t:TypeId) (x:Operand) (ho:o.op=.load t x) (p:Value) (hx:a.eval x=p) (hrun:(Instr.loadAt t p).run P w=.ok v w)
 (h:wpStill P ops w Q rest (a.put o.dst v)):wpStill P ops w Q (o :: rest) a:=by
 have hw:Region.wanted o (yielded ops a.tmps)=true:=by simp [Region.wanted,hgd]
 refine wpStill_step (fun K hK=>?_);rw [if_pos hw];simp [Oper.still,Oper.stillUpon,execOp,ho,hx,hrun,Result.andThen];exact hK _ h
theorem g9d {w:World} {b:Nat} {l:Bs} (hl:l.length=1024) (hb:w.heap[b]?=some (.cells (secC l) 110 (0,0))):(Instr.loadAt 110 (.pointer (some ⟨b,0,none⟩))).run Tryz.prog w=.ok (.agg (secC l)) w:=by
 simp only [Instr.loadAt,Instr.sureAddr,Sem.run_bind,Sem.run_pure,Result.andThen];exact run_loadVar_row w b _ _ _ _ _ hb Tryz.underlying110 rfl (by rw [g7h,hl];kernel_rfl)
theorem Dev.withL {w w':World} {sb bl bc:Nat} {s:St} (h:Dev w sb bl bc s) (g:w.grownBy w' (some bl)) {f:Int->Option Bs} (hm:SMap w' bl s.n f) (hz:∀ x,f x≠some zeros):Dev w' sb bl bc {s with L:=f} :=
 ⟨(g.block _ h.lt (by simp;exact h.sbl)).trans h.box,hm,h.cache.kept g (by simp;exact h.ne.symm),h.ne,hz,h.nle,h.f0,h.f1⟩
theorem Dev.withC {w w':World} {sb bl bc:Nat} {s:St} (h:Dev w sb bl bc s) (g:w.grownBy w' (some bc)) {f:Int->Option Bs} (hm:SMap w' bc s.n f):Dev w' sb bl bc {s with C:=f} :=
 ⟨(g.block _ h.lt (by simp;exact h.sbc)).trans h.box,h.last.kept g (by simp;exact h.ne),hm,h.ne,h.nz,h.nle,h.f0,h.f1⟩
theorem Dev.alloc {w:World} {sb bl bc:Nat} {s:St} (h:Dev w sb bl bc s) (o:Obj):Dev (w.alloc o) sb bl bc s:=h.kept ((Mod.refl [] w).alloc o) (by simp) (by simp) (by simp)
theorem k9q (w:World) (sb bl bc:Nat) (s:St) (n:Int) (h:Dev w sb bl bc s) (h0:0<=n) (h1:n<s.n):Calls Tryz.prog 62 #[ptr sb,.int .i64 n,.agg (secC zeros)] w fun e w' =>
 e=.returned (.tuple #[])/\Dev w' sb bl bc (s.lay n zeros)/\Mod [bl] w w':=by
 have hle:=h.nle;have h':=h.alloc (.cells (secC zeros) 110);obtain ⟨w2,hrun,hm,hg⟩:=h'.last.drop n (by omega) (by omega) 0;have HD:Hid (Dev w2 sb bl bc (s.lay n zeros)/\Mod [bl] w w2):=hid ⟨by
  rw [St.lay,if_pos rfl];exact h'.withL hg hm (fun x=>by
   by_cases e:x=n
   ·subst e;rw [upd_same];simp
   ·rw [g6e _ _ e];exact h.nz x),((Mod.refl _ w).alloc _).grown hg (fun k e=>.inl (by cases e;simp))⟩
 have R:=hid hrun;have hld:=g9d (w:=w.alloc (.cells (secC zeros) 110)) (b:=w.heap.size) g3x (heap_alloc_last _ _);have LD:=hid hld;have heq:=h5y zeros zeros (w.alloc (.cells (secC zeros) 110)) g3x g3x;rw [show decide (zeros=zeros)=true from decide_eq_true rfl] at heq;have EQ:=hid heq;obtain ⟨c0,c1,c2,c3,c4,c5⟩:=h.cells;have hlt:=h.lt;clear h h' hm hg hrun hld heq c0 c2 c3 c4 c5 hle h1 h0
 have BD:=hid (h1n (w.alloc (.cells (secC zeros) 110)));generalize zeros=z at *;go_enter Tryz.func62,Tryz.ntmps62
 go_wp2_with (first
  | (refine g0w rfl 110 (.tmp 2) rfl (secC z) rfl ?_)
  | (refine g0d rfl 110 (.tmp 5) rfl _ rfl LD.out ?_)
  | (refine g8o rfl 110 rfl BD.out ?_)
  | (refine g8t rfl .eql 110 110 (.tmp 6) (.tmp 7) rfl _ _ rfl rfl (h0t _ _ _ _ _) EQ.out ?_)
  | (refine g7t rfl 112 3 (.tmp 12) (.tmp 13) rfl _ _ rfl rfl R.out ?_))
 refine bodyPost_ret (results_none rfl _ _ _) rfl ?_;exact ⟨rfl,HD.out⟩
theorem k6z (w:World) (sb bl bc:Nat) (s:St) (n:Int) (l:Bs) (hl:l.length=1024) (hne:l≠zeros) (h:Dev w sb bl bc s) (h0:0<=n) (h1:n<s.n):Calls Tryz.prog 62 #[ptr sb,.int .i64 n,.agg (secC l)] w fun e w' =>
 e=.returned (.tuple #[])/\Dev w' sb bl bc (s.lay n l)/\Mod [bl] w w':=by
 have hle:=h.nle;have h':=h.alloc (.cells (secC l) 110);have HR:Hid (∃ w2,(Instr.mapUpdate 112 (.map (some bl)) (.int .i64 n) (.agg (secC l))).run Tryz.prog (w.alloc (.cells (secC l) 110)).drew=.ok () w2/\Dev w2 sb bl bc (s.lay n l)/\Mod [bl] w w2):=hid <| by
  have h2:=h'.kept (Mod.refl [] _).drew (by simp) (by simp) (by simp);obtain ⟨w2,hrun,hm,hg⟩:=h2.last.store hle n h0 h1 l hl;refine ⟨w2,hrun,?_,((Mod.refl _ w).alloc _).drew.grown hg (fun k e=>.inl (by cases e;simp))⟩;rw [St.lay,if_neg hne];exact h2.withL hg hm (fun x=>by
   by_cases e:x=n
   ·subst e;rw [upd_same];simpa using hne
   ·rw [g6e _ _ e];exact h.nz x)
 have hld:=g9d (w:=w.alloc (.cells (secC l) 110)) (b:=w.heap.size) hl (heap_alloc_last _ _);have LD:=hid hld;have LD2:=hid (g9d (w:=(w.alloc (.cells (secC l) 110)).drew) (b:=w.heap.size) hl (heap_alloc_last _ _));have heq:=h5y l zeros (w.alloc (.cells (secC l) 110)) hl g3x;rw [show decide (l=zeros)=false from decide_eq_false hne] at heq;have EQ:=hid heq;obtain ⟨c0,c1,c2,c3,c4,c5⟩:=h.cells
 have hlt:=h.lt;clear h h' hld heq c0 c2 c3 c4 c5 hle h1 h0 hne hl;have BD:=hid (h1n (w.alloc (.cells (secC l) 110)));generalize zeros=z at *;go_enter Tryz.func62,Tryz.ntmps62
 go_wp2_with (first
  | (refine g0w rfl 110 (.tmp 2) rfl (secC l) rfl ?_)
  | (refine g0d rfl 110 (.tmp 5) rfl _ rfl LD.out ?_)
  | (refine g8o rfl 110 rfl BD.out ?_)
  | (refine g8t rfl .eql 110 110 (.tmp 6) (.tmp 7) rfl _ _ rfl rfl (h0t _ _ _ _ _) EQ.out ?_))
 refine h4x 6 (by kernel_rfl) (by kernel_rfl) ?_;intro w1 hw1;simp only [List.take_succ_cons,List.take_zero,List.drop_succ_cons,List.drop_zero];have hc1:w1.cell? ⟨sb,1,none⟩=some (.map (some bl)):=by rw [hw1];exact (World.cell?_of_block (Below.heap_alloc w _ sb hlt)).trans c1
 obtain ⟨w2,hrun,HD⟩:=HR.out;have HD':=hid HD;rw [<- hw1] at hrun;have R:=hid hrun;have LD3:=LD2.out;rw [<- hw1] at LD3;have LD4:=hid LD3;clear hrun c1 LD EQ BD HR HD hw1 LD2 LD3
 repeat (first | (refine g8l rfl 110 (.tmp 5) rfl _ rfl LD4.out ?_) | still_step)
 refine wpStill_nil ?_;go_wp2_with (refine g2x rfl 112 (.tmp 17) (.tmp 18) (.tmp 19) rfl _ _ _ rfl rfl rfl R.out ?_)
 go_end0
 exact ⟨rfl,HD'.out⟩
theorem p2f (w:World) (sb bl bc:Nat) (s:St) (n:Int) (l:Bs) (hl:l.length=1024) (h:Dev w sb bl bc s) (h0:0<=n) (h1:n<s.n):Calls Tryz.prog 62 #[ptr sb,.int .i64 n,.agg (secC l)] w fun e w' =>
 e=.returned (.tuple #[])/\Dev w' sb bl bc (s.lay n l)/\Mod [bl] w w':=by
 by_cases e:l=zeros
 ·subst e;exact k9q w sb bl bc s n h h0 h1
 ·exact k6z w sb bl bc s n l hl e h h0 h1
open Go.RowKit Go.Maps Gen
abbrev BRow (w:World) (A:Option Addr) (l:Bs):Prop:=RowG w g4v A l
theorem BRow.mod {w w':World} {A:Option Addr} {l:Bs} {S:List Nat} (h:BRow w A l) (m:Mod S w w') (hA:l≠[]->∀ a,A=some a->a.block∉S):BRow w' A l:=fun hne=>by
 obtain ⟨b,off,e,hlt,hc⟩:=h hne;refine ⟨b,off,e,Nat.lt_of_lt_of_le hlt m.size,fun k hk=>?_⟩;rw [m.cell (p:=⟨b,off+k,none⟩) hlt (hA hne ⟨b,off,none⟩ e)];exact hc k hk
theorem p0k (w:World):BRow w none []:=fun h=>absurd rfl h
theorem p1v {w:World} {b:Nat} {l:Bs} {t:TypeId} {fr:Nat×Nat} (h:w.heap[b]?=some (.cells (secC l) t fr)):BRow w (some ⟨b,0,none⟩) l:=fun _ =>
 ⟨b,0,rfl,(Array.getElem?_eq_some_iff.1 h).1,fun k hk=>by rw [Nat.zero_add,cell_of_row w b k _ _ _ h,j5u l k hk]⟩
def St.readE (s:St) (n:Int):Int:=if s.off then 40 else if s.has n then 0 else 41
def St.readB (s:St) (n:Int):Bs:=if s.off then [] else if s.has n then s.get n else []
def g6l (w:World) (l:Bs) (er:Int) (e:Ending) (w':World):Prop :=
 ∃ A,e=.returned (.tuple #[.slice A l.length l.length,.int .i64 er])/\BRow w' A l/\(A=none->l=[])/\(∀ a,A=some a->w.heap.size<=a.block)/\Below w.heap.size w w'
theorem h3c (w:World) (er:Int):g6l w [] er (.returned (.tuple #[.slice none 0 0,.int .i64 er])) w:=⟨none,rfl,p0k w,fun _=>rfl,(fun _ h=>by cases h),Below.refl _ _⟩
theorem k6d (w:World) (sb bl bc:Nat) (s:St) (n:Int) (h:Dev w sb bl bc s) (ho:s.off=true):Calls Tryz.prog 163 #[ptr sb,.int .i64 n] w fun e w'=>e=.returned (.tuple #[.slice none 0 0,.int .i64 40])/\w=w':=by
 have cA:=g3i w sb bl bc s h;rw [show s.awE=40 by simp [St.awE,ho]] at cA;clear h ho;go_enter Tryz.func163,Tryz.ntmps163
 go_wp2_with fail
 refine cA.mono ?_;rintro e w' ⟨rfl,rfl⟩;go_wp2_with fail
 go_ret2
 exact ⟨rfl,rfl⟩
theorem k7i (w:World) (sb bl bc:Nat) (s:St) (n:Int) (h:Dev w sb bl bc s) (ho:s.off=false) (hh:s.has n=false):Calls Tryz.prog 163 #[ptr sb,.int .i64 n] w fun e w'=>e=.returned (.tuple #[.slice none 0 0,.int .i64 41])/\w=w':=by
 have cA:=g3i w sb bl bc s h;rw [show s.awE=0 by simp [St.awE,ho]] at cA;have cH:=h2o w sb bl bc s n h;rw [hh] at cH;clear h ho hh;go_enter Tryz.func163,Tryz.ntmps163
 go_wp2_with fail
 refine cA.mono ?_;rintro e w' ⟨rfl,rfl⟩;go_wp2_with fail
 refine cH.mono ?_;rintro e w' ⟨rfl,rfl⟩;go_wp2_with fail
 go_ret2
 exact ⟨rfl,rfl⟩
theorem h1y {s:St} {n:Int} (h:s.has n=true):0<=n/\n<s.n:=by simpa [St.has] using h
theorem g7m (w:World) (c:Array Value) (l:Bs) (hl:l.length=1024) (hc:c.size=1024):(Instr.storeAt 110 (.pointer (some ⟨w.heap.size,0,none⟩)) (.agg (secC l))).run Tryz.prog (w.alloc (.cells c 110))=.ok () (w.alloc (.cells (secC l) 110)) :=
 run_storeAt_new w _ c (secC l) (by rw [g7h,hl];kernel_rfl) (by rw [g7h,hl,hc]) (k8o l)
theorem h3k (w:World):(zeroValue 110).run Tryz.prog w=.ok (.agg (secC zeros)) w:=by rw [Tryz.zeroValue110,h2x]
theorem h1z:(secC zeros).size=1024:=by rw [g7h,g3x]
theorem j3w (w:World) (sb bl bc:Nat) (s:St) (n:Int) (l:Bs) (h:Dev w sb bl bc s) (ho:s.off=false) (hh:s.has n=true) (hc:s.C n=some l):Calls Tryz.prog 163 #[ptr sb,.int .i64 n] w fun e w' =>
 e=.returned (.tuple #[.slice (some ⟨w.heap.size+1,0,none⟩) 1024 1024,.int .i64 0])/\w'=(w.alloc (.cells (secC l) 110)).alloc (.cells (secC l) 110):=by
 have cA:=g3i w sb bl bc s h;rw [show s.awE=0 by simp [St.awE,ho]] at cA;have cH:=h2o w sb bl bc s n h;rw [hh] at cH;have hb:=h1y hh;have hle:=h.nle;have hl:=(h.cache.fit n l hc).2.2;have LK:=h.cache.lookup_ok n (by omega) (by omega);rw [hc] at LK;simp only [Option.getD_some,Option.isSome_some] at LK;have LK:=hid LK;obtain ⟨c0,c1,c2,c3,c4,c5⟩:=h.cells;have SS:=hid (g7m w (secC zeros) l hl h1z)
 have ZZ:=hid (h3k w);have LD:=hid (g9d (w:=w.alloc (.cells (secC l) 110)) (b:=w.heap.size) hl (heap_alloc_last _ _));clear h ho hh hc hb hle c0 c1 c3 c4 c5 hl;generalize zeros=z at *;go_enter Tryz.func163,Tryz.ntmps163
 go_wp2_with fail
 refine cA.mono ?_;rintro e w' ⟨rfl,rfl⟩;go_wp2_with fail
 refine cH.mono ?_;rintro e w' ⟨rfl,rfl⟩;go_wp2_with (first
  | (refine g4a rfl 112 (.tmp 22) (.tmp 23) true rfl _ _ rfl rfl LK.out ?_)
  | (refine g4p rfl 110 rfl _ ZZ.out ?_)
  | (refine g0b rfl 110 (.tmp 7) (.tmp 25) rfl _ _ rfl rfl SS.out ?_)
  | (refine g0d rfl 110 (.tmp 7) rfl _ rfl LD.out ?_)
  | (go_at_call 201;refine (j5g _ _).mono ?_;rintro e w' ⟨rfl,rfl⟩))
 go_ret2
 exact ⟨rfl,rfl⟩
theorem k4a (w:World) (sb bl bc:Nat) (s:St) (n:Int) (l:Bs) (h:Dev w sb bl bc s) (ho:s.off=false) (hh:s.has n=true) (hc:s.C n=none) (hl0:(s.L n).getD zeros=l):Calls Tryz.prog 163 #[ptr sb,.int .i64 n] w fun e w' =>
 e=.returned (.tuple #[.slice (some ⟨w.heap.size+1,0,none⟩) 1024 1024,.int .i64 0])/\w'=(w.alloc (.cells (secC zeros) 110)).alloc (.cells (secC l) 110):=by
 have cA:=g3i w sb bl bc s h;rw [show s.awE=0 by simp [St.awE,ho]] at cA;have cH:=h2o w sb bl bc s n h;rw [hh] at cH;have hb:=h1y hh;have hle:=h.nle;have hl:=h.last.getD_len n;have LK:=h.cache.lookup_ok n (by omega) (by omega);rw [hc] at LK;simp only [Option.getD_none,Option.isSome_none] at LK;have LK:=hid LK;obtain ⟨c0,c1,c2,c3,c4,c5⟩:=h.cells;have hlt:=h.lt;have SS:=hid (g7m w (secC zeros) zeros g3x h1z)
 have ZZ:=hid (h3k w);have LL:=hid ((h.alloc (.cells (secC zeros) 110)).last.lookup n (by omega) (by omega));rw [hl0] at hl LL;clear h ho hh hc hb hle c0 c3 c4 c5 hl hl0;generalize zeros=z at *;go_enter Tryz.func163,Tryz.ntmps163
 go_wp2_with fail
 refine cA.mono ?_;rintro e w' ⟨rfl,rfl⟩;go_wp2_with fail
 refine cH.mono ?_;rintro e w' ⟨rfl,rfl⟩;go_wp2_with (first
  | (refine g4a rfl 112 (.tmp 22) (.tmp 23) true rfl _ _ rfl rfl LK.out ?_)
  | (refine g4a rfl 112 (.tmp 33) (.tmp 34) false rfl _ _ rfl rfl LL.out ?_)
  | (refine g4p rfl 110 rfl _ ZZ.out ?_)
  | (refine g0b rfl 110 (.tmp 7) (.tmp 25) rfl _ _ rfl rfl SS.out ?_)
  | (go_at_call 201;refine (j5g _ _).mono ?_;rintro e w' ⟨rfl,rfl⟩))
 go_ret2
 exact ⟨rfl,rfl⟩
theorem k7j (w:World) (sb bl bc:Nat) (s:St) (n:Int) (h:Dev w sb bl bc s):Calls Tryz.prog 163 #[ptr sb,.int .i64 n] w (g6l w (s.readB n) (s.readE n)):=by
 cases ho:s.off
 ·cases hh:s.has n
  ·refine (k7i w sb bl bc s n h ho hh).mono ?_;rintro e w' ⟨rfl,rfl⟩
   simpa [St.readB,St.readE,ho,hh] using h3c w 41
  ·rw [show s.readB n=s.get n by simp [St.readB,ho,hh],show s.readE n=0 by simp [St.readE,ho,hh]];have fin:∀ (c:Array Value) (l:Bs),l.length=1024->g6l w l 0 (.returned (.tuple #[.slice (some ⟨w.heap.size+1,0,none⟩) 1024 1024,.int .i64 0])) ((w.alloc (.cells c 110)).alloc (.cells (secC l) 110)):=fun c l hl =>
    ⟨some ⟨w.heap.size+1,0,none⟩,by rw [hl],p1v (by simpa using heap_alloc_last (w.alloc (.cells c 110)) _),(fun h=>by cases h),(fun a ha=>by cases ha;simp),(((Below.refl _ _).alloc (Nat.le_refl _) _).alloc (by simp) _)⟩
   cases hc:s.C n with
   | none =>
    refine (k4a w sb bl bc s n _ h ho hh hc rfl).mono ?_;rintro e w' ⟨rfl,rfl⟩;rw [show s.get n=(s.L n).getD zeros by simp [St.get,hc]];exact fin _ _ (h.last.getD_len n)
   | some l =>
    refine (j3w w sb bl bc s n l h ho hh hc).mono ?_;rintro e w' ⟨rfl,rfl⟩;rw [show s.get n=l by simp [St.get,hc]];exact fin _ _ (h.cache.fit n l hc).2.2
 ·refine (k6d w sb bl bc s n h ho).mono ?_;rintro e w' ⟨rfl,rfl⟩
  simpa [St.readB,St.readE,ho] using h3c w 40
def over (l m:Bs):Bs:=l++m.drop l.length
theorem j9r (l:Bs):over l zeros=pad l:=by rw [over,pad,zeros,List.drop_replicate]
theorem k7d (w:World) (g:Nat) (m l:Bs) (A:Option Addr) (k c dl cp:Nat) (ty:TypeId) (t:TypeId) (hg:w.heap[g]?=some (.cells (secC m) t (0,0))) (hl:l.length=k) (hk:k<=dl) (hd:dl<=m.length) (hR:BRow w A l) :
 (Builtin.copy_ #[181,181] ty #[.slice (some ⟨g,0,none⟩) dl cp,.slice A k c]).run Tryz.prog w=.ok (goInt k) (w.setRow g (secC (over l m))):=by
 have hmin:Nat.min k dl=k:=Nat.min_eq_left hk
 by_cases h0:l=[]
 ·subst h0;obtain rfl:k=0:=by simpa using hl.symm
  rw [run_copy_none (P:=Tryz.prog) w _ _ ty 5 _ A dl cp 0 c Tryz.underlying181 (by kernel_rfl) hmin];rw [show over [] m=m by simp [over],setRow_self w g _ _ _ hg];rfl
 ·obtain ⟨b,off,rfl,_,hc⟩:=hR h0;have:=run_copy_row (P:=Tryz.prog) w 181 181 ty 5 g 0 dl cp ⟨b,off,none⟩ k c (secC m) t (l.map g4v) Tryz.underlying181 (by kernel_rfl) hg (by simp [hl];omega) (fun j v hv=>by
   have e:(⟨b,off,none⟩:Addr).add j=⟨b,off+j,none⟩:=by unfold Addr.add;split <;> simp_all
   rw [List.getElem?_map,Option.map_eq_some_iff] at hv;obtain ⟨x,hx,rfl⟩:=hv;obtain ⟨hj,hx⟩:=List.getElem?_eq_some_iff.1 hx;rw [e,hc j hj,hx]) (by rw [g7h];simp;omega) (fun v hv=>by
    obtain ⟨x,_,rfl⟩:=List.mem_map.1 hv;rfl)
  rw [this];have e2:((secC m).toList.take 0++l.map g4v++(secC m).toList.drop (0+(l.map g4v).length)).toArray=secC (over l m):=by
   simp [secC,over,List.map_drop]
  rw [e2];simp [hl]
theorem h6d {P:Program} {ops:Array Oper} {rest:List Oper} {o:Oper} {a:Act} {Q:Exit->Act->World->Prop} {w w':World} {v:Value} (hgd:o.guard=none) (t t':TypeId) (x y:Operand) (ho:o.op=.call {callee:=.builtin .copy,args:=#[x,y],argTypes:=#[t,t']}) (p u:Value) (hx:a.eval x=p) (hy:a.eval y=u)
 (hrun:(Builtin.copy_ #[t,t'] o.type #[p,u]).run P w=.ok v w') (h:wpList P ops Q rest (a.put o.dst v) w'):wpList P ops Q (o :: rest) a w:=by
 refine wpList_plain hgd fun K hK=>?_
 unfold Oper.wp;simp [execOp,ho,resolve,invoke,builtin,hx,hy,hrun,Result.andThen];exact hK _ _ h
def St.bad (s:St) (n:Int) (k:Nat):Bool:=!s.has n || decide (1024<k)
def St.writeE (s:St) (n:Int) (l:Bs):Int:=if s.off then 40 else if s.bad n l.length then 41 else s.actE
def St.write (s:St) (n:Int) (l:Bs):St:=if s.off then s else if s.bad n l.length then s else if s.actE=0 then {s.act with C:=upd s.act.C n (some (pad l))} else s.act
theorem k2l (s:St):s.act.n=s.n:=by unfold St.act;split <;> (try split) <;> rfl
theorem k4s (s:St):s.act.C=s.C:=by unfold St.act;split <;> (try split) <;> rfl
theorem k9n (s:St):s.act.L=s.L:=by unfold St.act;split <;> (try split) <;> rfl
theorem k4l (w:World) (sb bl bc:Nat) (s:St) (n:Int) (A:Option Addr) (k c:Nat) (h:Dev w sb bl bc s) (ho:s.off=true):Calls Tryz.prog 198 #[ptr sb,.int .i64 n,.slice A k c] w fun e w'=>e=.returned (.int .i64 40)/\w=w':=by
 have cA:=g3i w sb bl bc s h;rw [show s.awE=40 by simp [St.awE,ho]] at cA;clear h ho;go_enter Tryz.func198,Tryz.ntmps198
 go_wp2_with fail
 refine cA.mono ?_;rintro e w' ⟨rfl,rfl⟩;go_wp2_with fail
 go_ret
 exact ⟨rfl,rfl⟩
theorem k2c (w:World) (sb bl bc:Nat) (s:St) (n:Int) (A:Option Addr) (k c:Nat) (h:Dev w sb bl bc s) (ho:s.off=false) (hb:s.bad n k=true):Calls Tryz.prog 198 #[ptr sb,.int .i64 n,.slice A k c] w fun e w'=>e=.returned (.int .i64 41)/\w=w':=by
 have cA:=g3i w sb bl bc s h;rw [show s.awE=0 by simp [St.awE,ho]] at cA;have cH:=h2o w sb bl bc s n h;cases hh:s.has n
 ·rw [hh] at cH;clear h ho hh hb;go_enter Tryz.func198,Tryz.ntmps198
  go_wp2_with fail
  refine cA.mono ?_;rintro e w' ⟨rfl,rfl⟩;go_wp2_with fail
  refine cH.mono ?_;rintro e w' ⟨rfl,rfl⟩;go_wp2_with fail
  go_ret
  exact ⟨rfl,rfl⟩
 ·rw [hh] at cH;have hk:1024<k:=by simpa [St.bad,hh] using hb
  have hk':decide (1024<(k:Int))=true:=by simp;omega
  clear h ho hh hb;go_enter Tryz.func198,Tryz.ntmps198
  go_wp2_with fail
  refine cA.mono ?_;rintro e w' ⟨rfl,rfl⟩;go_wp2_with fail
  refine cH.mono ?_;rintro e w' ⟨rfl,rfl⟩;go_wp2_with fail
  go_ret
  exact ⟨rfl,rfl⟩
theorem k3h (w:World) (sb bl bc:Nat) (s:St) (n:Int) (A:Option Addr) (k c:Nat) (h:Dev w sb bl bc s) (ho:s.off=false) (hb:s.bad n k=false) (hA:s.actE=40):Calls Tryz.prog 198 #[ptr sb,.int .i64 n,.slice A k c] w fun e w' =>
 e=.returned (.int .i64 40)/\Dev w' sb bl bc s.act/\Mod [sb,bl,bc] w w':=by
 have cA:=g3i w sb bl bc s h;rw [show s.awE=0 by simp [St.awE,ho]] at cA;have cH:=h2o w sb bl bc s n h;have cT:=h9a w sb bl bc s h;rw [hA] at cT;obtain ⟨hh,hk⟩:s.has n=true/\k<=1024:=by simpa [St.bad] using hb
 rw [hh] at cH;have hk':decide (1024<(k:Int))=false:=by simp;omega
 clear h ho hh hb hA;go_enter Tryz.func198,Tryz.ntmps198
 go_wp2_with fail
 refine cA.mono ?_;rintro e w' ⟨rfl,rfl⟩;go_wp2_with fail
 refine cH.mono ?_;rintro e w' ⟨rfl,rfl⟩;go_wp2_with fail
 refine cT.mono ?_;rintro e w' ⟨rfl,HD,HM⟩;go_wp2_with fail
 go_ret
 exact ⟨rfl,HD,HM⟩
theorem k8j (w:World) (sb bl bc:Nat) (s:St) (n:Int) (A:Option Addr) (k c:Nat) (l:Bs) (hl:l.length=k) (hR:BRow w A l) (hAS:l≠[]->∀ a,A=some a->a.block≠sb/\a.block≠bl/\a.block≠bc) (h:Dev w sb bl bc s) (ho:s.off=false) (hb:s.bad n k=false) (hA:s.actE=0) :
 Calls Tryz.prog 198 #[ptr sb,.int .i64 n,.slice A k c] w fun e w' =>
 e=.returned (.int .i64 0)/\Dev w' sb bl bc {s.act with C:=upd s.act.C n (some (pad l))}/\Mod [sb,bl,bc] w w':=by
 have cA:=g3i w sb bl bc s h;rw [show s.awE=0 by simp [St.awE,ho]] at cA;have cH:=h2o w sb bl bc s n h;have cT:=h9a w sb bl bc s h;rw [hA] at cT;obtain ⟨hh,hk⟩:s.has n=true/\k<=1024:=by simpa [St.bad] using hb
 rw [hh] at cH;have HN:=hid (show 0<=n/\n<s.act.n by rw [k2l];exact h1y hh);have hk':decide (1024<(k:Int))=false:=by simp;omega
 have HR:=hid hR;have HL:=hid hl;have HAS:=hid hAS;clear h ho hh hb hA hR hl hAS;go_enter Tryz.func198,Tryz.ntmps198
 go_wp2_with fail
 refine cA.mono ?_;rintro e w' ⟨rfl,rfl⟩;go_wp2_with fail
 refine cH.mono ?_;rintro e w' ⟨rfl,rfl⟩;go_wp2_with fail
 refine cT.mono ?_;rintro e w1 ⟨rfl,HD,HM⟩;have hD2:=HD.alloc (.cells (secC zeros) 110);have hg:=heap_alloc_last w1 (.cells (secC zeros) 110);have hR2:BRow (w1.alloc (.cells (secC zeros) 110)) A l:=(HR.out.mod HM (fun hne a ha=>by obtain ⟨h1,h2,h3⟩:=HAS.out hne a ha;simp [h1,h2,h3])).below (by exact (Below.refl _ _).alloc (Nat.le_refl _) _);have CR:=k7d (w1.alloc (.cells (secC zeros) 110)) w1.heap.size zeros l A k c 1024 1024 3 _ hg HL.out hk (by rw [g3x];exact Nat.le_refl _) hR2
 rw [World.setRow_alloc_new,j9r] at CR;have CR:=hid CR;have ZZ:=hid (h3k w1);have hpl:(pad l).length=1024:=g8m (by have:=HL.out;omega);have hD3:=HD.alloc (.cells (secC (pad l)) 110);have HR3:Hid (∃ w2,(Instr.mapUpdate 112 (.map (some bc)) (.int .i64 n) (.agg (secC (pad l)))).run Tryz.prog (w1.alloc (.cells (secC (pad l)) 110)).drew=.ok () w2/\Dev w2 sb bl bc {s.act with C:=upd s.act.C n (some (pad l))}/\Mod [sb,bl,bc] w w2):=hid <| by
  have h2:=hD3.kept (Mod.refl [] _).drew (by simp) (by simp) (by simp);obtain ⟨w2,hrun,hm,hg2⟩:=h2.cache.store h2.nle n HN.out.1 HN.out.2 (pad l) hpl;exact ⟨w2,hrun,h2.withC hg2 hm,(HM.alloc _).drew.grown hg2 (fun k e=>.inl (by cases e;simp))⟩
 have LD2:=hid (g9d (w:=(w1.alloc (.cells (secC (pad l)) 110)).drew) (b:=w1.heap.size) hpl (heap_alloc_last _ _));obtain ⟨c0,c1,c2,c3,c4,c5⟩:=hD3.cells;clear hD2 hg hR2 hpl hD3 HR HAS HN HL c0 c1 c3 c4 c5 HM HD cA cH cT;generalize zeros=z at *;go_wp2_with (first
  | (refine g4p rfl 110 rfl _ ZZ.out ?_)
  | (refine h6d rfl 181 181 (.tmp 29) (.tmp 30) rfl _ _ rfl rfl CR.out ?_))
 refine h4x 6 (by kernel_rfl) (by kernel_rfl) ?_;intro w2 hw2;simp only [List.take_succ_cons,List.take_zero,List.drop_succ_cons,List.drop_zero];have hc2:w2.cell? ⟨sb,2,none⟩=some (.map (some bc)):=by rw [hw2];exact c2
 obtain ⟨w3,hrun,HD⟩:=HR3.out;have HD':=hid HD;rw [<- hw2] at hrun;have R:=hid hrun;have LD3:=LD2.out;rw [<- hw2] at LD3;have LD4:=hid LD3;clear hrun c2 CR ZZ HR3 HD hw2 LD2 LD3
 repeat (first | (refine g8l rfl 110 (.tmp 9) rfl _ rfl LD4.out ?_) | still_step)
 refine wpStill_nil ?_;go_wp2_with (refine g2x rfl 112 (.tmp 35) (.tmp 36) (.tmp 37) rfl _ _ _ rfl rfl rfl R.out ?_)
 go_ret
 exact ⟨rfl,HD'.out⟩
theorem k3a (w:World) (sb bl bc:Nat) (s:St) (n:Int) (A:Option Addr) (k c:Nat) (l:Bs) (hl:l.length=k) (hR:BRow w A l) (hAS:l≠[]->∀ a,A=some a->a.block≠sb/\a.block≠bl/\a.block≠bc) (h:Dev w sb bl bc s) :
 Calls Tryz.prog 198 #[ptr sb,.int .i64 n,.slice A k c] w fun e w'=>e=.returned (.int .i64 (s.writeE n l))/\Dev w' sb bl bc (s.write n l)/\Mod [sb,bl,bc] w w':=by
 subst hl;unfold St.writeE St.write;cases ho:s.off
 ·cases hb:s.bad n l.length
  ·rcases k4w s with hA | hA
   ·rw [hA];exact k8j w sb bl bc s n A _ c l rfl hR hAS h ho hb hA
   ·rw [hA];exact k3h w sb bl bc s n A _ c h ho hb hA
  ·refine (k2c w sb bl bc s n A _ c h ho hb).mono ?_;rintro e w' ⟨rfl,rfl⟩;exact ⟨rfl,h,Mod.refl _ _⟩
 ·refine (k4l w sb bl bc s n A _ c h ho).mono ?_;rintro e w' ⟨rfl,rfl⟩;exact ⟨rfl,h,Mod.refl _ _⟩
theorem h5t (w:World) (sb bl bc:Nat) (s:St) (h:Dev w sb bl bc s):Calls Tryz.prog 66 #[ptr sb] w fun e w'=>e=.returned (.int .i64 (s.n:Int))/\w=w':=by
 obtain ⟨c0,c1,c2,c3,c4,c5⟩:=h.cells;clear h c1 c2 c3 c4 c5;go_enter Tryz.func66,Tryz.ntmps66
 go_wp2_with fail
 go_ret
 exact ⟨rfl,rfl⟩
end Go.Proofs.YtglejnkoojpelaaGreat.Disk

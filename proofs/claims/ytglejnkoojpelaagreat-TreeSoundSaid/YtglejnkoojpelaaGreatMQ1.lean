import Derived.WalkKit
import Derived.Lib.Hide
import Derived.Test.YtglejnkoojpelaaGreatMA1
import Derived.Lib.Walk
import Derived.BigQuiet
import Derived.Shelf.Abstract
import Derived.Test.YtglejnkoojpelaaGreatProg
import Derived.Deep.RegionLaw
import Derived.RangeFuncBox
import Derived.RangeFuncLeaves
import Derived.OwnWalkIn
import Derived.TacticsInMore
import Derived.LoopNIn
import Derived.LoopIn
import Derived.Maps.AppendAt
import Derived.Deep.RegionHeld3
set_option maxRecDepth 100000
set_option maxHeartbeats 32000000
namespace Go.Proofs.YtglejnkoojpelaaGreat.Pool
open Lib (hid)
def lay1 (p:Int):List Int->List Int
 | []=>[p]
 | x :: l=>if x<p then x :: lay1 p l else p :: x :: l
def plc (p:Int):List Int->Nat
 | []=>0
 | x :: l=>if x<p then plc p l+1 else 0
theorem p0f (p:Int):∀ l,plc p l<=l.length
 | []=>Nat.le_refl _
 | x :: l=>by
  have:=p0f p l;unfold plc
  split <;> simp
  omega
theorem j0f (p:Int):∀ l:List Int,∀ x∈l.take (plc p l),x<p
 | [],x,h=>by simp at h
 | y :: l,x,h=>by
  unfold plc at h
  split at h
  ·rename_i hy
   rw [List.take_succ_cons] at h;rcases List.mem_cons.1 h with rfl | h
   ·exact hy
   ·exact j0f p l x h
  ·simp at h
theorem h7p (p:Int):∀ l:List Int,∀ x∈(l.drop (plc p l)).head?,p<=x
 | [],x,h=>by simp at h
 | y :: l,x,h=>by
  unfold plc at h
  split at h
  ·rw [List.drop_succ_cons] at h;exact h7p p l x h
  ·simp at h;omega
theorem k9z (p:Int) (l:List Int) (k:Nat) (hk:k<=l.length) (h1:∀ j (h:j<l.length),j<k->l[j]<p) (h2:∀ (h:k<l.length),p<=l[k]):plc p l=k:=by
 induction l generalizing k with
 | nil=>simp at hk;subst hk;rfl
 | cons x l ih =>
  rcases k with _ | k
  ·have:=h2 (by simp);simp only [List.getElem_cons_zero] at this;rw [plc,if_neg (by omega)]
  ·have:=h1 0 (by simp) (by omega);simp only [List.getElem_cons_zero] at this;rw [plc,if_pos this,ih k (by simpa using hk) (fun j hj hjk=>h1 (j+1) (by simpa using hj) (by omega)) (fun h=>h2 (by simpa using h))]
theorem j5s (p:Int):∀ l,lay1 p l=l.take (plc p l)++p :: l.drop (plc p l)
 | []=>rfl
 | x :: l=>by
  unfold lay1 plc
  split
  ·rw [List.take_succ_cons,List.drop_succ_cons,j5s p l];rfl
  ·rfl
theorem j2g (a b:Int):∀ l,lay1 a (lay1 b l)=lay1 b (lay1 a l)
 | []=>by
  simp only [lay1]
  split <;> split <;> first | rfl | omega | (rename_i h g; obtain rfl : a = b := by omega
                                             rfl)
 | x :: l=>by
  simp only [lay1]
  by_cases h1:x<a <;> by_cases h2:x<b
  ·rw [if_pos h1,if_pos h2,lay1,lay1,if_pos h1,if_pos h2,j2g a b l]
  ·rw [if_pos h1,if_neg h2,lay1,if_pos (by omega),lay1,if_pos h1,lay1,if_neg h2]
  ·rw [if_neg h1,if_pos h2,lay1,if_neg h1,lay1,if_pos (by omega),lay1,if_pos h2]
  ·rw [if_neg h1,if_neg h2,lay1,lay1]
   by_cases h3:b<a
   ·rw [if_pos h3,lay1,if_neg h1,lay1,if_neg (show ¬ a<b by omega)]
   ·by_cases h4:a<b
    ·rw [if_neg h3,lay1,if_pos h4,lay1,if_neg h2]
    ·obtain rfl:a=b:=by omega
     rfl
theorem h1j (p:Int):∀ l,(lay1 p l).Perm (p :: l)
 | []=>List.Perm.refl _
 | x :: l=>by
  unfold lay1
  split
  ·exact ((h1j p l).cons x).trans (List.Perm.swap p x l)
  ·exact List.Perm.refl _
theorem j5q (p:Int):∀ l,List.Sublist l (lay1 p l)
 | []=>List.nil_sublist _
 | x :: l=>by
  unfold lay1
  split
  ·exact (j5q p l).cons_cons x
  ·exact List.sublist_cons_self _ _
theorem g9e (p:Int) (l:List Int):(lay1 p l).length=l.length+1:=by rw [(h1j p l).length_eq];rfl
def layAll (l ps:List Int):List Int:=ps.foldl (fun l p=>lay1 p l) l
theorem g3j (l:List Int) (p:Int) (ps:List Int):layAll l (p :: ps)=layAll (lay1 p l) ps:=rfl
theorem j4z {ps qs:List Int} (h:ps.Perm qs):∀ l,layAll l ps=layAll l qs:=by
 induction h with
 | nil=>intro l;rfl
 | cons x _ ih=>intro l;exact ih _
 | swap x y _=>intro l;rw [g3j,g3j,g3j,g3j,j2g]
 | trans _ _ i1 i2=>intro l;exact (i1 l).trans (i2 l)
theorem g7q:∀ ps l,(layAll l ps).Perm (l++ps)
 | [],l=>by rw [List.append_nil];exact List.Perm.refl _
 | p :: ps,l=>by
  rw [g3j];refine (g7q ps _).trans ?_;refine ((h1j p l).append_right ps).trans ?_;rw [List.cons_append];exact List.perm_middle.symm
theorem h6u:∀ ps l,List.Sublist l (layAll l ps)
 | [],_=>List.Sublist.refl _
 | p :: ps,l=>(j5q p l).trans (h6u ps _)
theorem g8w (l ps:List Int):(layAll l ps).length=l.length+ps.length:=by rw [(g7q ps l).length_eq,List.length_append]
theorem g5v (l ps:List Int) (x:Int):x∈layAll l ps↔x∈l\/x∈ps:=by rw [(g7q ps l).mem_iff,List.mem_append]
theorem g3u (l:List Int) (p x:Int):x∈lay1 p l↔x=p\/x∈l:=by rw [(h1j p l).mem_iff,List.mem_cons]
def srt (l:List Int):List Int:=l.mergeSort (fun x y=>decide (x<=y))
theorem j5o (l:List Int):(srt l).Perm l:=List.mergeSort_perm l _
theorem k1t (l:List Int):(srt l).Pairwise (·<=·) :=
 (List.pairwise_mergeSort (le:=fun x y:Int=>decide (x<=y)) (fun a b c h1 h2=>by simp at h1 h2 ⊢;omega) (fun a b=>by simp;omega) l).imp (fun {a b} h=>by simpa using h)
theorem j3z (l:List Int):(srt l).length=l.length:=(j5o l).length_eq
def h8p:List Int->List Int->List Int
 | l,[]=>l
 | l,p :: ps=>l.take (plc p l)++p :: h8p (l.drop (plc p l)) ps
theorem h3e:∀ (ps t d:List Int) (p:Int),(∀ x∈t,x<p)->(∀ x∈d.head?,p<=x)->(∀ q∈ps,p<=q)->layAll (t++p :: d) ps=t++p :: layAll d ps
 | [],t,d,p,_,_,_=>rfl
 | q :: ps,t,d,p,h1,h2,h3=>by
  have hq:=h3 q (List.mem_cons_self ..);have e:lay1 q (t++p :: d)=t++p :: lay1 q d:=by
   clear h3
   induction t with
   | nil =>
    rw [List.nil_append,List.nil_append,lay1]
    split
    ·rfl
    ·obtain rfl:q=p:=by omega
     rcases d with _ | ⟨y,d⟩
     ·rfl
     ·have:=h2 y (by simp);rw [lay1,if_neg (by omega)]
   | cons x t ih =>
    have:=h1 x (List.mem_cons_self ..);rw [List.cons_append,lay1,if_pos (by omega),ih (fun y hy=>h1 y (List.mem_cons_of_mem _ hy))]
    rfl
  rw [g3j,e,h3e ps t (lay1 q d) p h1 (fun x hx=>?_) (fun y hy=>h3 y (List.mem_cons_of_mem _ hy))]
  ·rfl
  ·rcases d with _ | ⟨y,d⟩
   ·simp only [lay1,List.head?_cons,Option.mem_some_iff] at hx;omega
   ·have:=h2 y (by simp);unfold lay1 at hx
    split at hx
    ·simp only [List.head?_cons,Option.mem_some_iff] at hx;omega
    ·simp only [List.head?_cons,Option.mem_some_iff] at hx;omega
theorem j1j:∀ (ps l:List Int),ps.Pairwise (·<=·)->h8p l ps=layAll l ps
 | [],_,_=>rfl
 | p :: ps,l,h=>by
  rw [List.pairwise_cons] at h;rw [h8p,j1j ps _ h.2,g3j,j5s,h3e ps _ _ p (j0f p l) (h7p p l) h.1]
theorem p0p (l ps:List Int):h8p l (srt ps)=layAll l ps:=by rw [j1j _ _ (k1t ps),j4z (j5o ps)]
def Rise (l:List Int):Prop:=l.Pairwise (·<·)
instance (l:List Int):Decidable (Rise l):=inferInstanceAs (Decidable (List.Pairwise _ _))
theorem j7h:∀ l:List Int,Rise l↔∀ j (h:j+1<l.length),l[j]<l[j+1]
 | []=>⟨fun _ j h=>by simp at h,fun _=>List.Pairwise.nil⟩
 | [x]=>⟨fun _ j h=>by simp at h,fun _=>List.pairwise_singleton _ _⟩
 | x :: y :: l=>by
  have ih:=j7h (y :: l)
  constructor
  ·intro h j hj;unfold Rise at h;rw [List.pairwise_cons] at h;rcases j with _ | j
   ·exact h.1 y (List.mem_cons_self ..)
   ·exact ih.1 h.2 j (by simpa using hj)
  ·intro h;have h1:Rise (y :: l):=ih.2 (fun j hj=>h (j+1) (by simpa using hj));have h0:=h 0 (by simp);simp only [List.getElem_cons_zero,List.getElem_cons_succ] at h0;unfold Rise at h1 ⊢;refine List.pairwise_cons.2 ⟨fun z hz=>?_,h1⟩;rcases List.mem_cons.1 hz with rfl | hz
   ·exact h0
   ·have:=(List.pairwise_cons.1 h1).1 z hz;omega
theorem h0z (p:Int):∀ l,Rise l->p∉l->Rise (lay1 p l)
 | [],_,_=>List.pairwise_singleton _ _
 | x :: l,h,hp=>by
  unfold Rise at h;rw [List.pairwise_cons] at h;have hx:p≠x:=fun e=>hp (by rw [e];exact List.mem_cons_self ..)
  unfold lay1
  split
  ·refine List.pairwise_cons.2 ⟨fun y hy=>?_,h0z p l h.2 (fun e=>hp (List.mem_cons_of_mem _ e))⟩;rcases (g3u l p y).1 hy with rfl | hy
   ·assumption
   ·exact h.1 y hy
  ·refine List.pairwise_cons.2 ⟨fun y hy=>?_,List.pairwise_cons.2 h⟩;rcases List.mem_cons.1 hy with rfl | hy
   ·omega
   ·have:=h.1 y hy;omega
theorem h7i {l:List Int} (h:Rise l):l.Nodup:=List.Pairwise.imp (fun {a b} hab e=>by omega) h
theorem h4n:∀ ps l,Rise l->ps.Nodup->(∀ x∈ps,x∉l)->Rise (layAll l ps)
 | [],_,h,_,_=>h
 | p :: ps,l,h,hn,hd=>by
  rw [List.nodup_cons] at hn;rw [g3j];refine h4n ps _ (h0z p l h (hd p (List.mem_cons_self ..))) hn.2 (fun x hx e=>?_);rcases (g3u l p x).1 e with rfl | e
  ·exact hn.1 hx
  ·exact hd x (List.mem_cons_of_mem _ hx) e
structure Po where
 high:Int
 free:List Int:=[]
 limbo:List Int:=[]
structure g0g (p:Po) (most:Int):Prop where
 low:2<=p.high
 top:p.high<=most
 free:Rise p.free
 limbo:Rise p.limbo
 f:∀ x∈p.free,2<=x/\x<p.high
 l:∀ x∈p.limbo,2<=x/\x<p.high
 apart:∀ x∈p.limbo,x∉p.free
theorem h7z (p:Po) (most:Int):g0g p most↔2<=p.high/\p.high<=most/\Rise p.limbo/\Rise (layAll p.free p.limbo)/\∀ x∈layAll p.free p.limbo,2<=x/\x<p.high:=by
 constructor
 ·intro h;refine ⟨h.low,h.top,h.limbo,h4n _ _ h.free (h7i h.limbo) h.apart,fun x hx=>?_⟩;rcases (g5v _ _ x).1 hx with hx | hx
  ·exact h.f x hx
  ·exact h.l x hx
 ·rintro ⟨h1,h2,h3,h4,h5⟩;refine ⟨h1,h2,List.Pairwise.sublist (h6u _ _) h4,h3,fun x hx=>h5 x ((g5v _ _ x).2 (.inl hx)),fun x hx=>h5 x ((g5v _ _ x).2 (.inr hx)),fun x hx hf=>?_⟩;have hn:=(g7q p.limbo p.free).nodup_iff.1 (h7i h4);exact (List.nodup_append.1 hn).2.2 x hf x hx rfl
def g8p:Nat->List Int->List (List Int)
 | 0,_=>[]
 | n+1,l=>if l.length=0 then [] else l.take 200 :: g8p n (l.drop 200)
def chunks (l:List Int):List (List Int):=g8p l.length l
theorem h0a:∀ (n m:Nat) (l:List Int),l.length<=n->l.length<=m->g8p n l=g8p m l
 | 0,0,_,_,_=>rfl
 | 0,m+1,l,h,_=>by rw [g8p,g8p,if_pos (by omega)]
 | n+1,0,l,_,h=>by rw [g8p,g8p,if_pos (by omega)]
 | n+1,m+1,l,h,g=>by
  rw [g8p,g8p]
  by_cases e:l.length=0
  ·rw [if_pos e,if_pos e]
  ·rw [if_neg e,if_neg e,h0a n m (l.drop 200) (by rw [List.length_drop];omega) (by rw [List.length_drop];omega)]
theorem j9k:chunks []=[]:=rfl
theorem g6c (l:List Int) (h:l.length≠0):chunks l=l.take 200 :: chunks (l.drop 200):=by
 rw [chunks,h0a l.length (l.length+1) l (Nat.le_refl _) (by omega),g8p,if_neg h,chunks,h0a (l.drop 200).length l.length _ (Nat.le_refl _) (by rw [List.length_drop];omega)]
theorem j4l (l:List Int):(chunks l).flatten=l:=by
 obtain ⟨n,hn⟩:∃ n,l.length=n:=⟨_,rfl⟩
 induction n using Nat.strongRecOn generalizing l with
 | ind n ih =>
  by_cases h:l.length=0
  ·rw [List.eq_nil_of_length_eq_zero h];rfl
  ·rw [g6c l h,List.flatten_cons,ih (l.drop 200).length (by rw [List.length_drop];omega) _ rfl,List.take_append_drop]
theorem j8a (l:List Int):(chunks l).length<=l.length:=by
 obtain ⟨n,hn⟩:∃ n,l.length=n:=⟨_,rfl⟩
 induction n using Nat.strongRecOn generalizing l with
 | ind n ih =>
  by_cases h:l.length=0
  ·rw [List.eq_nil_of_length_eq_zero h];exact Nat.le_refl _
  ·rw [g6c l h,List.length_cons];have:=ih (l.drop 200).length (by rw [List.length_drop];omega) _ rfl;rw [List.length_drop] at this;omega
end Go.Proofs.YtglejnkoojpelaaGreat.Pool
namespace Go.Proofs.YtglejnkoojpelaaGreat.Pool
open Go.RowKit Gen
open Lib (hid)
abbrev numV (n:Int):Value:=.int .i64 n
abbrev IRow (w:World) (A:Option Addr) (l:List Int):Prop:=RowG w numV A l
structure NAt (w:World) (A:Option Addr) (n c:Nat) (l:List Int):Prop where
 len:l.length=n
 cap:n<=c
 max:c<=maxLen
 nil:A=none->c=0
 row:IRow w A l
theorem NAt.below {w w':World} {A:Option Addr} {n c:Nat} {l:List Int} (h:NAt w A n c l) (hb:Below w.heap.size w w'):NAt w' A n c l:=⟨h.len,h.cap,h.max,h.nil,RowG.below h.row hb⟩
theorem NAt.none (w:World):NAt w none 0 0 []:=⟨rfl,Nat.le_refl _,Nat.zero_le _,fun _=>rfl,fun h=>absurd rfl h⟩
theorem g2p:Elem Tryz.prog 66 3 numV :=
 ⟨Tryz.underlying66,⟨_,_,8,rfl,rfl,rfl,rfl,rfl,by omega⟩,fun _=>rfl⟩
abbrev OwnI (w:World) (B:Nat) (v:Value) (l:List Int):Prop:=OwnG w 3 numV B v l
theorem g3v {w:World} {B:Nat} {v:Value} {l:List Int} (h:OwnI w B v l):∃ A n c,v=.slice A n c/\NAt w A n c l/\∀ a,A=some a->B<=a.block:=by
 have h0:=h;obtain ⟨A,c,e,h1,h2,h3,h4⟩:=OwnG.row h;refine ⟨A,l.length,c,e,⟨rfl,h2,h3,h1,h4⟩,fun a ha=>?_⟩;subst ha;rw [e] at h0;exact (World.ownsRow.lt h0 a.block rfl).1
theorem NAt.head {w:World} {A:Option Addr} {n c:Nat} {l:List Int} (h:NAt w A n c l) {k:Nat} (hk:k<=n):NAt w A k c (l.take k) :=
 ⟨by rw [List.length_take, h.len]; omega, Nat.le_trans hk h.cap, h.max, h.nil, fun hne => by
   obtain ⟨b,o,e,hlt,hc⟩:=h.row (fun e=>hne (by rw [e];simp));exact ⟨b,o,e,hlt,fun j hj=>by
    rw [List.getElem_take];exact hc j (by rw [List.length_take] at hj;omega)⟩⟩
theorem NAt.tail {w:World} {A:Option Addr} {n c:Nat} {l:List Int} (h:NAt w A n c l) {k:Nat} (hk:k<=n):NAt w (if c=k then A else A.map (·.add k)) (n-k) (c-k) (l.drop k):=by
 have hcap:=h.cap;have hmax:=h.max;have hlen:=h.len;refine ⟨by rw [List.length_drop,h.len],by omega,by omega,fun e=>?_,fun hne=>?_⟩
 ·split at e
  ·have:=h.nil e;omega
  ·have:=h.nil (by simpa using e);omega
 ·have hl:k<l.length:=by
   rcases Nat.lt_or_ge k l.length with g | g
   ·exact g
   ·exact absurd (List.drop_eq_nil_of_le g) hne
  obtain ⟨b,o,rfl,hlt,hc⟩:=h.row (fun e=>by rw [e] at hl;simp at hl);rw [if_neg (by omega)];refine ⟨b,o+k,by simp [Addr.add],hlt,fun j hj=>?_⟩;rw [List.length_drop] at hj;rw [List.getElem_drop,Nat.add_assoc];exact hc (k+j) (by omega)
def At (w:World) (b:Nat) (C:Array Value):Prop:=b<w.heap.size/\(∀ j,w.frozen? ⟨b,j,none⟩=false)/\∀ j v,C[j]?=some v->w.cell? ⟨b,j,none⟩=some v
theorem At.of_block {w:World} {b:Nat} {C:Array Value} {t:TypeId} (h:w.heap[b]?=some (.cells C t (0,0))):At w b C :=
 ⟨(Array.getElem?_eq_some_iff.1 h).1,fun j=>frozen_of_row w b j C t h,fun j v hv=>by rw [cell_of_row w b j C _ _ h];exact hv⟩
theorem At.below {w w':World} {b:Nat} {C:Array Value} {n:Nat} (h:At w b C) (hb:Below n w w') (hn:b<n):At w' b C :=
 ⟨Nat.lt_of_lt_of_le h.1 hb.size,fun j=>(hb.frozen (p:=⟨b,j,none⟩) hn).trans (h.2.1 j),fun j v hv=>(hb.cell (p:=⟨b,j,none⟩) hn).trans (h.2.2 j v hv)⟩
theorem At.set {w:World} {b:Nat} {C:Array Value} (h:At w b C) (i:Nat) (v:Value) (hi:i<C.size):At (w.setCell ⟨b,i,none⟩ v) b (C.setIfInBounds i v):=by
 have hc:=h.2.2 i _ (Array.getElem?_eq_getElem hi);refine ⟨by simpa using h.1,fun j=>?_,fun j u hu=>?_⟩
 ·rw [World.frozen?_setCell];exact h.2.1 j
 ·rw [Array.getElem?_setIfInBounds] at hu
  by_cases e:i=j
  ·subst e;rw [if_pos rfl,if_pos hi] at hu;cases hu;exact World.cell?_setCell_same _ _ _ hc
  ·rw [if_neg e] at hu;rw [World.cell?_setCell_other _ _ _ _ (by intro h;injection h;contradiction)];exact h.2.2 j u hu
theorem At.set_other {w:World} {b b' i:Nat} {C:Array Value} {v:Value} (h:At w b C) (hne:b'≠b):At (w.setCell ⟨b',i,none⟩ v) b C :=
 ⟨by simpa using h.1,fun j=>by rw [World.frozen?_setCell];exact h.2.1 j,fun j u hu=>by
  rw [World.cell?_setCell_other _ _ _ _ (by intro h;injection h;contradiction)];exact h.2.2 j u hu⟩
def h4j (p:Prop) (w:World) (e:Ending) (w':World):Prop:=∃ r:Bool,e=.returned (.bool r)/\(r=true↔p)/\Below w.heap.size w w'
structure La where
 A1:Option Addr:=none
 c1:Nat:=0
 A2:Option Addr:=none
 c2:Nat:=0
abbrev poC (p:Po) (a:La):Array Value:=#[.int .i64 p.high,.slice a.A1 p.free.length a.c1,.slice a.A2 p.limbo.length a.c2]
abbrev poV (p:Po) (a:La):Value:=.agg (poC p a)
structure PoAt (w:World) (p:Po) (a:La):Prop where
 f:NAt w a.A1 p.free.length a.c1 p.free
 l:NAt w a.A2 p.limbo.length a.c2 p.limbo
theorem PoAt.below {w w':World} {p:Po} {a:La} (h:PoAt w p a) (hb:Below w.heap.size w w'):PoAt w' p a:=⟨h.f.below hb,h.l.below hb⟩
theorem j0h (w:World) (p:Po) (a:La):At (w.alloc (.cells (poC p a) 70)) w.heap.size (poC p a):=At.of_block (heap_alloc_new w _)
theorem g0a (w:World) (o:Obj):Below w.heap.size w (w.alloc o):=(Below.refl _ _).alloc (Nat.le_refl _) _
def j2k (high n:Int):Prop:=2<=n/\n<high
theorem j7s (p:Po) (a:La) (n:Int) (w:World):Calls Tryz.prog 168 #[poV p a,.int .i64 n] w (h4j (j2k p.high n) w):=by
 have B1:=hid (g0a w (.cells (poC p a) 70));unfold poV;unfold poC at *
 by_cases h1:2<=n
 ·have d1:decide (2<=n)=true:=by simp [h1]
  go_enter Tryz.func168,Tryz.ntmps168
  go_wp2_with fail
  go_ret
  exact ⟨_,rfl,by unfold j2k;simp [h1],B1.out⟩
 ·have d1:decide (2<=n)=false:=by simp [h1]
  go_enter Tryz.func168,Tryz.ntmps168
  go_wp2_with fail
  go_ret
  exact ⟨_,rfl,by unfold j2k;simp;omega,B1.out⟩
theorem k1d (A:Option Addr) (n c:Nat) (l:List Int) (x:Int) (w:World) (h:NAt w A n c l):Calls Tryz.prog 166 #[.slice A n c,.int .i64 x] w fun e w'=>∃ k:Int,e=.returned (.int .i64 k)/\(0<=k↔x∈l)/\w=w':=by
 have HR:=hid h.row;have HL:=hid h.len;have hn:n<=9223372036854775807:=by have h1:=h.cap;have h2:=h.max;unfold maxLen at h2;omega
 clear h;go_enter Tryz.func166,Tryz.ntmps166
 go_wp2_with fail
 go_loop [5,8] (fun _ i=>∃ k:Nat,i=.int .i64 (k:Int)/\k<=n/\Hid (∀ j (h:j<l.length),j<k->l[j]≠x)) (fun _ i=>n-(intOf i).toNat)
 case atStart=>exact ⟨0,rfl,Nat.zero_le _,hid (fun j h hj=>absurd hj (Nat.not_lt_zero j))⟩
 case round =>
  obtain ⟨k,rfl,hk,hQ⟩:=hrel
  by_cases hlt:k<n
  ·have hkl:k<l.length:=by have:=HL.out;omega
   obtain ⟨b,off,rfl,hb,hc⟩:=HR.out (by intro e;subst e;simp at hkl);have hc1:=hc k hkl;have HM:=hid (List.getElem_mem hkl);have HQ:Hid (l[k]≠x->∀ j (h:j<l.length),j<k+1->l[j]≠x):=hid (fun e j hj hjk=>by
    by_cases g:j=k
    ·subst g;exact e
    ·exact hQ.out j hj (by omega))
   generalize l[k]=y at hc1 HM HQ;clear hc hQ
   by_cases hxy:x=y
   ·have d:(x==y)=true:=by simp [hxy]
    have HX:=hid hxy;clear hxy;go_wp2_with fail
    go_ret
    exact ⟨_,rfl,⟨fun _=>by rw [HX.out];exact HM.out,fun _=>by omega⟩,rfl⟩
   ·have d:(x==y)=false:=by simp [hxy]
    have HN:=hid (HQ.out (fun e=>hxy e.symm));clear hxy HQ;go_wp2_with fail
    go_round
    case rel=>exact ⟨k+1,by go_num,by omega,HN⟩
    case measure=>simp [intOf];omega
  ·have HN:Hid (x∉l):=hid (fun hm=>by
    obtain ⟨j,hj,e⟩:=List.getElem_of_mem hm;exact hQ.out j hj (by have:=HL.out;omega) e)
   clear hQ;go_wp2_with fail
   go_ret
   exact ⟨_,rfl,⟨fun h=>by omega,fun h=>absurd h HN.out⟩,rfl⟩
theorem h3b (A:Option Addr) (n c:Nat) (l:List Int) (x:Int) (w:World) (h:NAt w A n c l):Calls Tryz.prog 117 #[.slice A n c,.int .i64 x] w fun e w'=>∃ r:Bool,e=.returned (.bool r)/\(r=true↔x∈l)/\w=w':=by
 have cI:=k1d A n c l x w h;clear h;go_enter Tryz.func117,Tryz.ntmps117
 go_wp2_with fail
 refine cI.mono ?_;rintro e w' ⟨k,rfl,hk,rfl⟩;have HK:=hid hk;clear hk cI;go_wp2_with fail
 go_ret
 exact ⟨_,rfl,by rw [decide_eq_true_iff];exact HK.out,rfl⟩
theorem h9c (g:Nat) (lb:Array Value) (p:Int->Bool) (eg:∀ args w,(callFunc g args).run Tryz.prog w=.ok (.enter g args) w) (A:Option Addr) (n c:Nat) (l:List Int) (w:World) (h:NAt w A n c l)
 (hp:∀ W x,Below w.heap.size w W->Calls Tryz.prog g (#[.int .i64 x]++lb) W fun e w'=>e=.returned (.bool (p x))/\Below w.heap.size w w') :
 Calls Tryz.prog 120 #[.slice A n c,.func (.func g) #[] lb] w fun e w'=>∃ k:Int,e=.returned (.int .i64 k)/\((k = -1/\∀ x∈l,p x=false)\/∃ j:Nat,k=(j:Int)/\∃ h:j<l.length,p l[j]=true/\∀ i (h:i<l.length),i<j->p l[i]=false)/\Below w.heap.size w w':=by
 have HR:=hid h.row;have HL:=hid h.len;have HP:=hid hp;have hn:n<=9223372036854775807:=by have h1:=h.cap;have h2:=h.max;unfold maxLen at h2;omega
 clear h hp;go_enter Tryz.func120,Tryz.ntmps120
 go_wp2_with fail
 go_loopw [5,8] (fun _ i wr=>∃ k:Nat,i=.int .i64 (k:Int)/\k<=n/\Hid (∀ j (h:j<l.length),j<k->p l[j]=false)/\Below w.heap.size w wr) (fun _ i _=>n-(intOf i).toNat)
 case atStart=>exact ⟨0,rfl,Nat.zero_le _,hid (fun j h hj=>absurd hj (Nat.not_lt_zero j)),Below.refl _ _⟩
 case round =>
  obtain ⟨k,rfl,hk,hQ,hB⟩:=hrel;have HB:=hid hB
  by_cases hlt:k<n
  ·have hkl:k<l.length:=by have:=HL.out;omega
   obtain ⟨b,off,rfl,hb,hc⟩:=HR.out (by intro e;subst e;simp at hkl);have hc1:=(hB.cell (p:=⟨b,off+k,none⟩) hb).trans (hc k hkl);have HM:=hid (show p l[k]=true->∃ j:Nat,(k:Int)=(j:Int)/\∃ h:j<l.length,p l[j]=true/\∀ i (h:i<l.length),i<j->p l[i]=false from fun e=>⟨k,rfl,hkl,e,hQ.out⟩);have HQ:Hid (p l[k]=false->∀ j (h:j<l.length),j<k+1->p l[j]=false):=hid (fun e j hj hjk=>by
    by_cases g:j=k
    ·subst g;exact e
    ·exact hQ.out j hj (by omega))
   generalize l[k]=y at hc1 HM HQ;have hcall:=HP.out wr y HB.out;clear hc hQ hB;cases hq:p y with
   | true =>
    rw [hq] at hcall;have HX:=hid (HM.out hq);clear HM HQ hq;go_wp2_with (go_at_fn g;refine hcall.mono ?_;rintro e w' ⟨rfl,hb'⟩)
    go_ret
    exact ⟨_,rfl,.inr HX.out,hb'⟩
   | false =>
    rw [hq] at hcall;have HX:=hid (HQ.out hq);clear HM HQ hq;go_wp2_with (go_at_fn g;refine hcall.mono ?_;rintro e w' ⟨rfl,hb'⟩)
    go_roundw
    case rel=>exact ⟨k+1,by go_num,by omega,HX,hb'⟩
    case measure=>simp [intOf];omega
  ·have HN:Hid (∀ x∈l,p x=false):=hid (fun x hm=>by
    obtain ⟨j,hj,rfl⟩:=List.getElem_of_mem hm;exact hQ.out j hj (by have:=HL.out;omega))
   clear hQ hB;go_wp2_with fail
   go_ret
   exact ⟨_,rfl,.inl ⟨rfl,HN.out⟩,HB.out⟩
theorem j4q:Tryz.prog.underlying 66=some (.slice (Tryz.prog.elem 66)):=by kernel_rfl
theorem j5a (w:World):(sizeOf (Tryz.prog.elem 66)).run Tryz.prog w=.ok 1 w:=by kernel_rfl
theorem add_zero (a:Addr):a.add 0=a:=by
 unfold Addr.add
 split <;> simp_all
theorem j0c (A:Option Addr) (n c k:Nat) (h:k<=c) (W:World):(Instr.slice 66 (.slice A n c) none (some (.int .i64 k)) none).run Tryz.prog W=.ok (.slice A k c) W:=by
 rw [run_slice_h W 66 A n c j4q .i64 (k:Int) (by omega) (by omega),j5a];unfold sliced;rcases A with _ | a
 ·simp [Result.andThen]
 ·simp [Result.andThen,add_zero]
theorem h1e (A:Option Addr) (n c k:Nat) (h:k<=n) (W:World):(Instr.slice 66 (.slice A n c) (some (.int .i64 k)) none none).run Tryz.prog W=.ok (.slice (if c=k then A else A.map (·.add k)) (n-k) (c-k)) W:=by
 rw [run_slice_l W 66 A n c j4q .i64 (k:Int) (by omega) (by omega),j5a];unfold sliced;simp [Result.andThen]
abbrev Part:=Option Addr×Nat×List Int
abbrev encS (x:Part):Value:=.slice x.1 x.2.2.length x.2.1
def g1z (w:World) (xs:List Part):Prop:=∀ x∈xs,NAt w x.1 x.2.2.length x.2.1 x.2.2
def g0t (xs:List Part):List Int:=xs.flatMap (·.2.2)
theorem g3m (xs ys:List Part):g0t (xs++ys)=g0t xs++g0t ys:=List.flatMap_append
theorem g7g {xs:List Part} {k:Nat} (h:k<xs.length):g0t (xs.take (k+1))=g0t (xs.take k)++xs[k].2.2:=by
 rw [g0t,List.take_succ_eq_append_getElem h,List.flatMap_append];simp [g0t]
theorem g7r (xs:List Part) (k:Nat):(g0t (xs.take k)).length<=(g0t xs).length:=by
 have:g0t xs=g0t (xs.take k)++g0t (xs.drop k):=by rw [g0t,g0t,g0t,<- List.flatMap_append,List.take_append_drop]
 rw [this,List.length_append];omega
def Owns (l:List Int) (w:World) (e:Ending) (w':World):Prop:=∃ v,e=.returned v/\OwnI w' w.heap.size v l/\Below w.heap.size w w'
def k9t (w:World) (xs:List Part):Prop:=∀ x∈xs,(x.1=none->x.2.1=0)/\IRow w x.1 x.2.2
theorem g1z.weak {w:World} {xs:List Part} (h:g1z w xs):k9t w xs:=fun x hx=>⟨(h x hx).nil,(h x hx).row⟩
theorem k8t (A:Option Addr) (n c:Nat) (xs:List Part) (w:World) (hl:xs.length=n) (hn:n<=1000000) (hR:RowG w encS A xs) (hP:k9t w xs) (hb:(g0t xs).length<=1000000000) :
 Calls Tryz.prog 118 #[.slice A n c] w (Owns (g0t xs) w):=by
 have HR:=hid hR;have HL:=hid hl;have HP:=hid hP;have HT:=hid (g7r xs);have HB:=hid hb;clear hR hl hP hb;go_enter Tryz.func118,Tryz.ntmps118
 go_wp2_with fail
 go_loopw [3,8] (fun v i wr=>∃ k:Nat,i=.int .i64 k/\k<=n/\OwnI wr w.heap.size v (g0t (xs.take k))/\Below w.heap.size w wr/\w.heap.size<=wr.heap.size) (fun _ i _=>n-(intOf i).toNat)
 case atStart=>exact ⟨0,rfl,Nat.zero_le _,OwnG.nil _ _ _ _,Below.refl _ _,Nat.le_refl _⟩
 case round =>
  obtain ⟨k,rfl,hk,ho,hb,hB⟩:=hrel
  by_cases hlt:k<n
  ·have hkl:k<xs.length:=by have:=HL.out;omega
   obtain ⟨b,off,rfl,hlb,hc⟩:=HR.out (by intro e;subst e;simp at hkl);have hck:=hc k hkl;rw [<- hb.cell (p:=⟨b,off+k,none⟩) hlb] at hck;have hin:=HP.out _ (List.getElem_mem hkl);have hle:=HT.out (k+1);rw [g7g hkl,List.length_append] at hle;have hrow:=RowG.below hin.2 hb;obtain ⟨v',W',hrun,ho',hg,_⟩:=g1x g2p wr w.heap.size _ _ ho xs[k].1 xs[k].2.2.length xs[k].2.1 xs[k].2.2 rfl hin.1 hrow (by have:=HB.out;omega) hB
   have hb':=below_grown hb ho hg hB;have hB':=Nat.le_trans hB hg.size;rw [<- g7g hkl] at ho';have hck2:wr.cell? ⟨b,off+k,none⟩=some (.slice xs[k].1 xs[k].2.2.length xs[k].2.1):=hck;have R1:=hid hrun;clear hck hrun;generalize hx1:xs[k].1=x1 at hck2 R1;generalize hx2:xs[k].2.2.length=x2 at hck2 R1;generalize hx3:xs[k].2.1=x3 at hck2 R1;have HO':=hid ho';have HB':=hid hb';clear hx1 hx2 hx3 ho' hb' hg ho hb hc hin hle hrow
   go_wp2_with (at_builtin;(refine g0e rfl (.tmp 12) (.tmp 13) _ rfl rfl rfl R1.out ?_;clear R1))
   go_roundw
   case rel=>exact ⟨k+1,by go_num,by omega,HO'.out,HB'.out,hB'⟩
   case measure=>simp [intOf];omega
  ·rw [List.take_of_length_le (by have:=HL.out;omega)] at ho;have HO:=hid ho;have HBB:=hid hb;clear ho hb;go_wp2_with fail
   go_ret
   exact ⟨_,rfl,HO.out,HBB.out⟩
theorem g1h (A:Option Addr) (n c:Nat) (xs:List Part) (w:World) (hl:xs.length=n) (hn:n<=1000000) (hR:RowG w encS A xs) (hP:g1z w xs) (hb:(g0t xs).length<=1000000000) :
 Calls Tryz.prog 118 #[.slice A n c] w (Owns (g0t xs) w):=k8t A n c xs w hl hn hR hP.weak hb
theorem g2g {w:World} {e:TypeId} {α:Type} {enc:α->Value} {B B':Nat} {v:Value} {l:List α} (h:OwnG w e enc B v l) (hb:B'<=B):OwnG w e enc B' v l:=by
 refine ⟨h.1,?_⟩;rcases h.2 with hn | ⟨g,cap,cur,hv,hbg,rest⟩
 ·exact .inl hn
 ·exact .inr ⟨g,cap,cur,hv,Nat.le_trans hb hbg,rest⟩
theorem j9b (b:Nat) (p x:Int) (w:World) (h:w.cell? ⟨b,0,none⟩=some (.int .i64 p)):Calls Tryz.prog 240 #[.int .i64 x,.pointer (some ⟨b,0,none⟩)] w fun e w'=>e=.returned (.bool (decide (p<=x)))/\w=w':=by
 go_enter Tryz.func240,Tryz.ntmps240
 go_wp2_with fail
 go_ret
 exact ⟨rfl,rfl⟩
theorem h4b (A:Option Addr) (n c:Nat) (l:List Int) (p:Int) (w:World) (h:NAt w A n c l):Calls Tryz.prog 200 #[.slice A n c,.int .i64 p] w fun e w'=>e=.returned (.int .i64 (plc p l:Int))/\Below w.heap.size w w':=by
 have hb:=g0a w (.cells #[.int .i64 p] 3);have cF:=h9c 240 #[.pointer (some ⟨w.heap.size,0,none⟩)] (fun x=>decide (p<=x)) (Go.Proofs.enters_of Tryz.func240 (by kernel_rfl) rfl) A n c l _ (h.below hb) (fun W x hW =>
  (j9b w.heap.size p x W ((hW.cell (p:=⟨w.heap.size,0,none⟩) (by simp)).trans (by simp))).mono (by rintro e w' ⟨rfl,rfl⟩;exact ⟨rfl,hW⟩))
 have HB:=hid hb;have HL:=hid h.len;clear h hb;go_enter Tryz.func200,Tryz.ntmps200
 go_wp2_with fail
 refine cF.mono ?_;rintro e w' ⟨k,rfl,hk,hb'⟩;have HB':=hid (HB.out.trans (hb'.mono HB.out.size));clear cF hb';rcases hk with ⟨rfl,hk⟩ | ⟨j,rfl,hj,hk,hi⟩
 ·have e:(plc p l:Int)=(n:Int):=by
   rw [k9z p l n (by have:=HL.out;omega) (fun j hj _=>by have:=hk _ (List.getElem_mem hj);simp at this;omega) (fun h=>by have:=HL.out;omega)]
  have HE:=hid e;clear hk e;go_wp2_with fail
  go_ret
  exact ⟨by rw [HE.out];rfl,HB'.out⟩
 ·have e:(plc p l:Int)=(j:Int):=by
   rw [k9z p l j (by omega) (fun i h hij=>by have:=hi i h hij;simp at this;omega) (fun _=>by simpa using hk)]
  have d:¬ (j:Int)<0:=by omega
  have HE:=hid e;clear hk e hi;go_wp2_with fail
  go_ret
  exact ⟨by rw [HE.out];rfl,HB'.out⟩
end Go.Proofs.YtglejnkoojpelaaGreat.Pool
namespace Go.Proofs.YtglejnkoojpelaaGreat.Pool
open Go.RowKit Go.Shelf Gen
open Lib (hid)
attribute [local go_sem] Oper.semAt_some
theorem k0c (F:Fence) (n:Nat) (hf:F.fn 239) (hro:F.round=none) (hn:1<=n) (l Bs n₀:Nat) (A:Option Addr) (len cap:Nat) (zs:List Int) (hz:zs.length=len) (hreach:len<=1000000) (J Jx:List Int->World->Prop)
 (hY:∀ pre x W,J pre W->pre.length<len->YieldAt F (n-1) Tryz.prog l #[.int .i64 x] W fun e W' =>
   (e=.returned (.bool true)/\J (pre++[x]) W'/\Below n₀ W W')\/(e=.returned (.bool false)/\Jx (pre++[x]) W'))
 (W:World) (hBs:W.cell? ⟨Bs,0,none⟩=some (.slice A len cap)) (hc:zs≠[]->∃ b off,A=some ⟨b,off,none⟩/\b<n₀/\∀ j (h:j<zs.length),W.cell? ⟨b,off+j,none⟩=some (.int .i64 zs[j])) (h0:J [] W) :
 CallsIn F n Tryz.prog 239 #[.func (.yield l) #[] #[],.pointer (some ⟨Bs,0,none⟩)] W fun e W'=>(∃ v,e=.returned v) /\
  ((∃ ys,ys=zs/\J ys W')\/(∃ pre,pre <+: zs/\Jx pre W')):=by
 refine callsIn_of_wp Tryz.func239 rfl hf ?_ hro;simp only [Tryz.ntmps239,List.size_toArray,List.length_cons,List.length_nil,Nat.reduceAdd,Nat.reduceSub,Array.replicate_succ,Array.replicate_zero,List.push_toArray,List.append_toArray,List.nil_append,List.cons_append];have HC:=hid hc;clear hc
 gi_wp2
 gi_loopw [7] (fun i wr=>∃ k:Nat,k<=len/\i=.int .i64 k/\J (zs.take k) wr/\Below n₀ W wr)
  (fun i _=>len-(intOf i).toNat)
 case atStart=>exact ⟨0,Nat.zero_le _,rfl,h0,Below.refl _ _⟩
 case round =>
  obtain ⟨k,hk,rfl,hJs,hnx⟩:=hrel
  by_cases hlt:k<len
  ·have hkl:k<zs.length:=by omega
   obtain ⟨b,off,rfl,hb,hcs⟩:=HC.out (by intro e;subst e;simp at hkl);have hcx':=(hnx.cell (p:=⟨b,off+k,none⟩) hb).trans (hcs k hkl);have HT:=hid (show zs.take (k+1)=zs.take k++[zs[k]] from List.take_succ_eq_append_getElem hkl);generalize hx:zs[k]=x at hcx' HT;obtain ⟨fn,tmps,assign,body,hy,hR⟩:=hY _ x wr hJs (by rw [List.length_take];omega);clear hcs hx
   gi_wp2
   refine hR.mono ?_;rintro e W3 (⟨rfl,hJ3,hk3⟩ | ⟨rfl,hJx3⟩)
   ·gi_wp2
    go_roundw
    case rel=>exact ⟨k+1,by omega,by simp,by rw [HT.out];exact hJ3,hnx.trans hk3⟩
    case measure=>simp [intOf];omega
   ·gi_wp2
    refine bodyPost_ret (results_none rfl _ _ _) rfl ?_;exact ⟨⟨_,rfl⟩,.inr ⟨_,by rw [<- HT.out];exact List.take_prefix _ _,hJx3⟩⟩
  ·obtain rfl:k=len:=by omega
   gi_wp2
   go_end0
   exact ⟨⟨_,rfl⟩,.inl ⟨_,List.take_of_length_le (by omega),hJs⟩⟩
theorem values_in (F:Fence) (n:Nat) (h5:F.fn 199) (hro:F.round=none) (a:Option Addr) (len cap:Nat) (w:World) :
 CallsIn F n Tryz.prog 199 #[.slice a len cap] w fun e w'=>e=.returned (.func (.func 239) #[] #[.pointer (some ⟨w.heap.size,0,none⟩)])/\w'=w.alloc (.cells #[.slice a len cap] 66):=by
 refine callsIn_of_wp Tryz.func199 rfl h5 ?_ hro;simp only [Tryz.ntmps199,List.size_toArray,List.length_cons,List.length_nil,Nat.reduceAdd,Nat.reduceSub,Array.replicate_succ,Array.replicate_zero,List.push_toArray,List.append_toArray,List.nil_append,List.cons_append]
 gi_wp2
 go_ret
 exact ⟨rfl,rfl⟩
def j4x (n₀:Nat) (W:World) (A:Option Addr) (zs:List Int):Prop:=zs≠[]->∃ b off,A=some ⟨b,off,none⟩/\b<n₀/\∀ j (h:j<zs.length),W.cell? ⟨b,off+j,none⟩=some (.int .i64 zs[j])
theorem j4x.below {n₀:Nat} {W W':World} {A:Option Addr} {zs:List Int} (h:j4x n₀ W A zs) (hb:Below n₀ W W'):j4x n₀ W' A zs:=fun hne=>by
 obtain ⟨b,off,e,hlt,hc⟩:=h hne;exact ⟨b,off,e,hlt,fun j hj=>(hb.cell (p:=⟨b,off+j,none⟩) hlt).trans (hc j hj)⟩
theorem j4x.of {w:World} {A:Option Addr} {zs:List Int} (h:IRow w A zs):j4x w.heap.size w A zs:=h
theorem values_stops (F:Fence) (n:Nat) (h7:F.fn 239) (hro:F.round=none) (hn:1<=n) (Bs n₀:Nat) (A:Option Addr) (len cap:Nat) (zs:List Int) (hz:zs.length=len) (hreach:len<=1000000) (w:World) (hBs:Bs<w.heap.size) (hn₀:n₀<=w.heap.size)
 (hc:w.cell? ⟨Bs,0,none⟩=some (.slice A len cap)) (hI:j4x n₀ w A zs) :
 SeqStopsK F n Tryz.prog 239 #[.pointer (some ⟨Bs,0,none⟩)] (fun x:Int=>#[Value.int .i64 x]) (Below n₀) (fun ys=>ys=zs) (fun pre=>pre <+: zs) len w:=fun l J Jx W hW _ _ hY h0 =>
 k0c F n h7 hro hn l Bs n₀ A len cap zs hz hreach J Jx hY W ((hW.cell (p:=⟨Bs,0,none⟩) hBs).trans hc) (hI.below (hW.mono hn₀)) h0
theorem k9l:(Tryz.prog.info? 3).map (fun i=>(i.zero,i.size,i.bytes))=some (some (.int .i64 0),1,8):=by kernel_rfl
theorem g1w {t:TypeId} {z:Value} {n b:Nat} (h:(Tryz.prog.info? t).map (fun i=>(i.zero,i.size,i.bytes))=some (some z,n,b)):∃ i,Tryz.prog.info? t=some i/\i.zero=some z/\i.size=n/\i.bytes=b:=by
 obtain ⟨i,hi,hzz⟩:=Option.map_eq_some_iff.1 h;simp only [Prod.mk.injEq] at hzz;exact ⟨i,hi,hzz.1,hzz.2.1,hzz.2.2⟩
theorem appendSeq_in (F:Fence) (n:Nat) (h11:F.fn 177) (h7:F.fn 239) (hro:F.round=none) (hn:3<=n) (Bs:Nat) (A:Option Addr) (len cap:Nat) (zs:List Int) (hz:zs.length=len) (hreach:len<=1000000) (w:World) (hBs:Bs<w.heap.size)
 (hc:w.cell? ⟨Bs,0,none⟩=some (.slice A len cap)) (hI:IRow w A zs) :
 CallsIn F n Tryz.prog 177 #[.slice none 0 0,.func (.func 239) #[] #[.pointer (some ⟨Bs,0,none⟩)]] w fun e w'=>∃ v,e=.returned v/\OwnI w' w.heap.size v zs/\Below w.heap.size w w':=by
 have h1:1<=n:=by omega
 obtain ⟨i0,hi,hz0,hz1,hz2⟩:=g1w k9l;refine callsIn_of_wp_marks Tryz.func177 rfl h11 ?_ hro;simp only [Tryz.ntmps177,List.size_toArray,List.length_cons,List.length_nil,Nat.reduceAdd,Nat.reduceSub,Array.replicate_succ,Array.replicate_zero,List.push_toArray,List.append_toArray,List.nil_append,List.cons_append]
 gi_wp2
 have bS:=Boxed.new w 66 (.slice none 0 0);have hB0:Below w.heap.size w (w.alloc (.cells #[.slice none 0 0] 66)):=(Below.refl _ w).alloc (Nat.le_refl _) _;refine wpIn_rangeFunc_ownG hro h1 (gf:=239) (lb:=#[.pointer (some ⟨Bs,0,none⟩)]) rfl h7 (enters_of Tryz.func239 (by kernel_rfl) rfl)
  (values_stops F (n-1) h7 hro (by omega) Bs w.heap.size A len cap zs hz hreach _ (by simp;omega) (by simp) ((hB0.cell (p:=⟨Bs,0,none⟩) hBs).trans hc) ((j4x.of hI).below hB0)) belowK_t (belowK_b (by simp)) (Below.refl _ _) (fun _=>rfl)
  (fun pre W=>(∃ v,Boxed W w.heap.size 66 v/\W.ownsRow w.heap.size 3 1 v pre.length (pre.map numV)/\True)/\Below w.heap.size w W)
  (fun _ _ _=>False)
  (OwnFrom.and (Own.from (holdsRow_own w.heap.size w.heap.size 66 3 1 (fun pre:List Int=>pre.length) (fun pre:List Int=>pre.map numV) (fun _ _=>True)) _) (ownFrom_below (Nat.le_refl _) (by simp)))
  (fun _ _ _ _ _ hs _ _=>hs)
  ⟨⟨_,bS,OwnG.nil _ _ _ _,trivial⟩,hB0⟩
  (fun x=>{tmps:=#[.slice none 0 0,.func (.func 239) #[] #[.pointer (some ⟨Bs,0,none⟩)],.pointer (some ⟨w.heap.size,0,none⟩),undef,.slice none 0 0,.int .i64 x,.func (.func 239) #[] #[.pointer (some ⟨Bs,0,none⟩)],.int .i64 x,undef,undef,undef,undef,undef],defers:=[]}) ?assign ?body ?done ?stop
 case assign =>
  intro l x W K hK
  gi_wp2
  exact hK
 case body =>
  rintro l pre x W ⟨⟨v,hv,hrow,-⟩,hB⟩ hlen;have hvc:=hv.cell;have hle:=hB.size
  gi_wp2_with (first
   | (gi_at_builtin;refine wpListIn_append_own _ rfl _ _ 66 rfl w.heap.size 3 i0 _ 1 8 Tryz.underlying66 hi hz0 hz1 hz2 rfl (by decide) _ _ _ rfl (hrow.alloc _) ⟨W.heap.size,0,none⟩ 1 1 [numV x] rfl rfl (cell_one_new _ _ _) (by simp [Value.oneCell']) (by unfold maxLen;omega) (by omega) (by simp;omega) ?_;intro v' w1 hown' hgrow _;obtain ⟨g',cap',rfl⟩:=ownsRow_succ hown';obtain ⟨hv1,hv2,hr2,hk2,hb2⟩:=hv.appended (by decide) hrow hle (Nat.le_refl _) hown' hgrow;have hc1:=hv1.cell;have hf1:=hv1.frozen)
   | gi_in)
  exact ⟨hk2.from _,hb2,⟨_,hv2,by rw [List.length_append,List.map_append];exact hr2,trivial⟩,hB.trans hb2⟩
 case done =>
  rintro D ys W hD rfl ⟨⟨v,hv,hrow,-⟩,hB⟩ hK;have hvc:=hv.cell
  gi_wp2
  refine ⟨by simp,.inl ⟨_,_,rfl,run_takeDeferred hK,?_⟩⟩;exact ⟨_,results_tmp rfl _ _ _,v,rfl,ownsRow_putObj hrow _ hK rfl,hB.trans (belowK_b (w:=w) (Nat.le_refl _) W D _ _ (by simp at hD;omega) hK rfl rfl)⟩
 case stop =>
  rintro D c pre W _ _ h _;exact h.elim
theorem collect_in (F:Fence) (n:Nat) (h8:F.fn 136) (h11:F.fn 177) (h7:F.fn 239) (hro:F.round=none) (hn:4<=n) (Bs:Nat) (A:Option Addr) (len cap:Nat) (zs:List Int) (hz:zs.length=len) (hreach:len<=1000000) (w:World) (hBs:Bs<w.heap.size)
 (hc:w.cell? ⟨Bs,0,none⟩=some (.slice A len cap)) (hI:IRow w A zs) :
 CallsIn F n Tryz.prog 136 #[.func (.func 239) #[] #[.pointer (some ⟨Bs,0,none⟩)]] w fun e w'=>∃ v,e=.returned v/\OwnI w' w.heap.size v zs/\Below w.heap.size w w':=by
 have h1:1<=n:=by omega
 refine callsIn_of_wp Tryz.func136 rfl h8 ?_ hro;simp only [Tryz.ntmps136,List.size_toArray,List.length_cons,List.length_nil,Nat.reduceAdd,Nat.reduceSub,Array.replicate_succ,Array.replicate_zero,List.push_toArray,List.append_toArray,List.nil_append,List.cons_append]
 gi_wp2_with (gi_at_call 177;refine (appendSeq_in F (n-1) h11 h7 hro (by omega) Bs A len cap zs hz hreach _ hBs hc hI).mono ?_;rintro e w' ⟨v,rfl,hrow,hb⟩)
 go_ret
 exact ⟨v,rfl,hrow,hb⟩
end Go.Proofs.YtglejnkoojpelaaGreat.Pool
namespace Go.Proofs.YtglejnkoojpelaaGreat.Pool
open Go.RowKit Go.Sort Go.Shelf Gen
open Lib (hid)
theorem j8w (a:Option Addr) (len cap:Nat) (w:World):Calls Tryz.prog 199 #[.slice a len cap] w fun e w'=>e=.returned (.func (.func 239) #[] #[.pointer (some ⟨w.heap.size,0,none⟩)])/\w'=w.alloc (.cells #[.slice a len cap] 66) :=
 (callsIn_wide (n:=5)).1 (values_in Fence.wide 5 trivial rfl a len cap w)
theorem k5s (gb cap:Nat) (zs:List Int) (W:World) (hH:Holds encZ W gb 0 zs.toArray) (hgl:gb<W.heap.size) (hsz:zs.length<4611686018427387904):Calls Tryz.prog 137 #[.slice (some ⟨gb,0,none⟩) zs.length cap] W fun e w'=>e=.returned (.tuple #[])/\∃ n os,w'=grow (putRow encZ (Sort.ahead W n) gb 0 (srt zs).toArray) os :=
 AnyM.slices_Sort_int Tryz.sortA gb 0 cap zs W hH hgl hsz
theorem j7z (Bs:Nat) (A:Option Addr) (len cap:Nat) (zs:List Int) (w:World) (h:NAt w A len cap zs) (hreach:len<=1000000) (hBs:Bs<w.heap.size) (hc:w.cell? ⟨Bs,0,none⟩=some (.slice A len cap)) :
 Calls Tryz.prog 80 #[.func (.func 239) #[] #[.pointer (some ⟨Bs,0,none⟩)]] w (Owns (srt zs) w):=by
 have cC:=(callsIn_wide (n:=5)).1 (collect_in Fence.wide 5 trivial trivial trivial rfl (by omega) Bs A len cap zs h.len hreach w hBs hc h.row);obtain rfl:=h.len;clear h hc;go_enter Tryz.func80,Tryz.ntmps80
 go_wp2_with fail
 refine cC.mono ?_;rintro e W ⟨v,rfl,hrow,hb⟩;clear cC;rcases hrow.2 with ⟨rfl,hz0⟩ | ⟨gb,cap,cur,rfl,hbase,hgb,r1,r2,r3,r4⟩
 ·have hss:zs=[]:=List.eq_nil_of_length_eq_zero hz0;subst hss;have HB:=hid hb;clear hb hrow;go_wp2_with fail
  refine (AnyM.slices_Sort_int_none Tryz.sortA none 0 W).mono ?_;rintro e w' ⟨rfl,rfl⟩;go_wp2_with fail
  go_ret
  exact ⟨.slice none 0 0,rfl,(by rw [show srt []=[] by simp [srt]];exact OwnG.nil _ _ _ _),HB.out⟩
 ·have hH:Holds encZ W gb 0 zs.toArray:=holds_of_block_i hgb (by simpa using r4);have hgl:gb<W.heap.size:=(Array.getElem?_eq_some_iff.1 hgb).1;have hsz:zs.length<4611686018427387904:=by omega
  have cS:=k5s gb cap zs W hH hgl hsz;go_wp2_with fail
  refine cS.mono ?_;rintro e w' ⟨rfl,nn,os,rfl⟩;have HX:Hid (OwnI (grow (putRow encZ (Sort.ahead W nn) gb 0 (srt zs).toArray) os) w.heap.size (.slice (some ⟨gb,0,none⟩) zs.length cap) (srt zs)):=hid (by
   have:=ownsRow_sorted_i (ss:=zs) (ts:=srt zs) (n:=nn) (os:=os) (j3z zs) hbase hgb r1 r2 r3;unfold OwnI OwnG;rw [j3z];exact this)
  have HB:=hid (hb.grown (grownBy_sorted_i (n:=nn) (os:=os) (w:=W) (g:=gb) (srt zs).toArray) hb.size (fun j hj=>by cases hj;exact hbase));clear cS hH hb hrow;go_wp2_with fail
  go_ret
  exact ⟨_,rfl,HX.out,HB.out⟩
end Go.Proofs.YtglejnkoojpelaaGreat.Pool
namespace Go.Proofs.YtglejnkoojpelaaGreat.Pool
open Go.RowKit Gen
open Lib (hid)
theorem h6k:Elem Tryz.prog 119 66 encS :=
 ⟨Tryz.underlying119,⟨_,_,24,rfl,rfl,rfl,rfl,rfl,by omega⟩,fun _=>rfl⟩
abbrev OwnL (w:World) (B:Nat) (v:Value) (xs:List Part):Prop:=OwnG w 66 encS B v xs
theorem g3z {α:Type} {enc:α->Value} {w w':World} {A:Option Addr} {l:List α} {row:Option Nat} (h:RowG w enc A l) (g:w.grownBy w' row) (hA:l≠[]->∀ a,A=some a->some a.block≠row):RowG w' enc A l:=fun hne=>by
 obtain ⟨b,off,e,hlt,hc⟩:=h hne;refine ⟨b,off,e,Nat.lt_of_lt_of_le hlt g.size,fun k hk=>?_⟩;rw [World.cell?_of_block (w:=w) (a:=⟨b,off+k,none⟩) (g.block b hlt (hA hne _ e))];exact hc k hk
structure Lies (w:World) (row:Option Nat) (x:Part):Prop where
 at_:NAt w x.1 x.2.2.length x.2.1 x.2.2
 apart:x.2.2≠[]->∀ a,x.1=some a->a.block<w.heap.size/\some a.block≠row
theorem Lies.alloc {w:World} {row:Option Nat} {x:Part} (h:Lies w row x) (o:Obj):Lies (w.alloc o) row x :=
 ⟨h.at_.below (g0a w o),fun hne a e=>by have:=h.apart hne a e;exact ⟨by simp;omega,this.2⟩⟩
theorem Lies.grown {w w':World} {row row':Option Nat} {x:Part} (h:Lies w row x) (g:w.grownBy w' row) (hr:row'=row\/row'=some w.heap.size):Lies w' row' x :=
 ⟨⟨h.at_.len,h.at_.cap,h.at_.max,h.at_.nil,g3z h.at_.row g (fun hne a e=>(h.apart hne a e).2)⟩,fun hne a e=>by
  have h1:=h.apart hne a e;refine ⟨Nat.lt_of_lt_of_le h1.1 g.size,?_⟩;rcases hr with rfl | rfl
  ·exact h1.2
  ·intro e2;have:=Option.some.inj e2;omega⟩
structure PS (w wr:World) (v:Value) (xs:List Part):Prop where
 own:OwnL wr w.heap.size v xs
 parts:∀ x∈xs,Lies wr v.ownBlock x
 below:Below w.heap.size w wr
theorem PS.nil (w:World):PS w w (.slice none 0 0) []:=⟨OwnG.nil _ _ _ _,fun x hx=>by simp at hx,Below.refl _ _⟩
theorem PS.alloc {w wr:World} {v:Value} {xs:List Part} (h:PS w wr v xs) (o:Obj):PS w (wr.alloc o) v xs :=
 ⟨OwnG.kept h.own (g0a wr o),fun x hx=>(h.parts x hx).alloc o,h.below.alloc h.below.size o⟩
theorem PS.app {w wr:World} {v:Value} {xs:List Part} (h:PS w wr v xs) (zs:List Part) (hz:∀ x∈zs,Lies wr v.ownBlock x) (m:Nat) (hm:zs.length=m) (C:Array Value) (hC:C=(zs.map encS).toArray) (hn:xs.length+m<=1000000) :
 ∃ v' W',(Builtin.append_ #[119,119] 119 #[v,.slice (some ⟨wr.heap.size,0,none⟩) m m]).run Tryz.prog (wr.alloc (.cells C 66))=.ok v' W'/\PS w W' v' (xs++zs)/\Below w.heap.size wr W':=by
 have h2:=h.alloc (.cells C 66);have hrow:RowG (wr.alloc (.cells C 66)) encS (some ⟨wr.heap.size,0,none⟩) zs:=fun _=>⟨wr.heap.size,0,rfl,by simp,fun k hk=>by
  rw [Nat.zero_add,cell_of_row _ _ k C _ _ (heap_alloc_new wr _),hC];simp [hk]⟩
 obtain ⟨v',W',hrun,ho',hg,hv⟩:=g1x h6k _ w.heap.size v xs h2.own (some ⟨wr.heap.size,0,none⟩) m m zs hm (fun e=>by cases e) hrow (by omega) h2.below.size;refine ⟨v',W',hrun,⟨ho',fun x hx=>?_,below_grown h2.below h2.own hg h2.below.size⟩,?_⟩
 ·rcases List.mem_append.1 hx with hx | hx
  ·exact (h2.parts x hx).grown hg hv
  ·exact ((hz x hx).alloc _).grown hg hv
 ·exact below_grown ((Below.refl _ wr).alloc h.below.size _) h2.own hg h2.below.size
theorem PS.two {w wr:World} {v:Value} {xs:List Part} (h:PS w wr v xs) (A:Option Addr) (j c:Nat) (l1:List Int) (hj:l1.length=j) (hy:Lies wr v.ownBlock (A,c,l1)) (p:Int) (hn:xs.length<=900000) :
 ∃ v' W',(Builtin.append_ #[119,119] 119 #[v,.slice (some ⟨wr.heap.size+1,0,none⟩) 2 2]).run Tryz.prog ((wr.alloc (.cells #[.int .i64 p] 3)).alloc (.cells #[.slice A j c,.slice (some ⟨wr.heap.size,0,none⟩) 1 1] 66))=.ok v' W' /\
  PS w W' v' (xs++[(A,c,l1),(some ⟨wr.heap.size,0,none⟩,1,[p])])/\Below w.heap.size wr W':=by
 subst hj;have h1:=h.alloc (.cells #[.int .i64 p] 3);have hlt:∀ k,v.ownBlock=some k->k<wr.heap.size:=fun k hk=>(World.ownsRow.lt h.own k hk).2
 have hp:Lies (wr.alloc (.cells #[.int .i64 p] 3)) v.ownBlock (some ⟨wr.heap.size,0,none⟩,1,[p]) :=
  ⟨⟨rfl, Nat.le_refl _, (show (1 : Nat) ≤ maxLen by unfold maxLen; omega), fun e => (by cases e), fun _ => ⟨wr.heap.size, 0, rfl, by simp, fun k hk => by
    obtain rfl:k=0:=by simp at hk;omega
    simp⟩⟩,fun _ a e=>by
    cases e;exact ⟨by simp,fun e=>absurd (hlt _ e.symm) (Nat.lt_irrefl _)⟩⟩
 obtain ⟨v',W',hrun,hps,hb⟩:=h1.app [(A,c,l1),(some ⟨wr.heap.size,0,none⟩,1,[p])] (fun x hx=>by
  rcases List.mem_cons.1 hx with rfl | hx
  ·exact hy.alloc _
  ·rw [List.mem_singleton.1 hx];exact hp) 2 rfl #[.slice A l1.length c,.slice (some ⟨wr.heap.size,0,none⟩) 1 1] rfl (by omega)
 rw [World.size_alloc] at hrun;exact ⟨v',W',hrun,hps,((Below.refl _ wr).alloc h.below.size _).trans hb⟩
theorem k1s {l:List Int} {k:Nat} (h:k<l.length):l.drop k=l[k] :: l.drop (k+1):=List.drop_eq_getElem_cons h
theorem j8i {S r T:List Int} {xs:List Part} {k:Nat} (hk:k<S.length) (h:g0t xs++h8p r (S.drop k)=T) (B:Option Addr) (A:Option Addr) (c:Nat) :
 g0t (xs++[(A,c,r.take (plc S[k] r)),(B,1,[S[k]])])++h8p (r.drop (plc S[k] r)) (S.drop (k+1))=T:=by
 rw [k1s hk,h8p] at h;rw [<- h,g3m];simp [g0t]
theorem h1o (A B:Option Addr) (n c m d:Nat) (l ps:List Int) (w:World) (h:NAt w A n c l) (g:NAt w B m d ps) (hn:n<=100000) (hm:m<=100000) :
 Calls Tryz.prog 162 #[.slice A n c,.slice B m d] w (Owns (layAll l ps) w):=by
 have hT:=p0p l ps;have hTl:=g8w l ps;have hl:=h.len;have hp:=g.len;have b1:=g0a w (.cells #[.slice B m d] 66);have cS:=j7z w.heap.size B m d ps (w.alloc (.cells #[.slice B m d] 66)) (g.below b1) (by omega) (by simp) (by simp);have HG:=hid h;have HB1:=hid b1;have HSL:=hid (j3z ps);obtain ⟨T,hTT⟩:∃ T,layAll l ps=T:=⟨_,rfl⟩;rw [hTT] at hT hTl ⊢;have HTl:=hid (show T.length<=200000 by omega)
 have HP:=hid hp;clear h g b1 hTT hTl hl hp;generalize srt ps=S at *;have HT:=hid hT;clear hT;go_enter Tryz.func162,Tryz.ntmps162
 go_wp2_with (go_at_call 199;refine (j8w _ _ _ _).mono ?_;rintro e w' ⟨rfl,rfl⟩)
 refine cS.mono ?_;rintro e W0 ⟨v0,rfl,ho,hb⟩;obtain ⟨A2,n2,c2,rfl,hS,-⟩:=g3v ho;have HS:=hid hS;have HL:=hid hS.len;have HB:=hid (HB1.out.trans (hb.mono HB1.out.size));have HN:=hid (HG.out.below HB.out);have hn2:n2<=100000:=by have:=hS.len;have:=HSL.out;have:=HP.out;omega
 clear ho hb cS HG HB1 hS HSL;go_wp2_with fail
 go_loopw [0,5,13] (fun s0 s5 i wr=>∃ (k:Nat) (A':Option Addr) (n' c':Nat) (r:List Int) (xs:List Part) (v:Value),v=s5/\s0=.slice A' n' c'/\i=.int .i64 (k:Int)/\k<=n2/\NAt W0 A' n' c' r/\PS W0 wr v xs/\Hid (g0t xs++h8p r (S.drop k)=T)/\xs.length=2*k) (fun _ _ i _=>n2-(intOf i).toNat)
 case atStart=>exact ⟨0,A,n,c,l,[],_,rfl,rfl,rfl,Nat.zero_le _,HN.out,PS.nil _,hid (by rw [List.drop_zero];exact HT.out),rfl⟩
 case round =>
  obtain ⟨k,A',n',c',r,xs,v,rfl,rfl,rfl,hk,hr,hps,hQ,hx⟩:=hrel
  by_cases hlt:k<n2
  ·have hkl:k<S.length:=by have:=HL.out;omega
   obtain ⟨b,off,rfl,hb,hc⟩:=HS.out.row (by intro e;rw [e] at hkl;simp at hkl);have hck:=(hps.below.cell (p:=⟨b,off+k,none⟩) hb).trans (hc k hkl);have hrw:=hr.below hps.below;have HQ:=hid (fun B':Option Addr=>j8i hkl hQ.out B' A' c');have hj:=p0f S[k] r;have cP:=h4b A' n' c' r S[k] wr hrw;generalize S[k]=p at hck HQ hj cP;rw [hr.len] at hj;clear hc hQ;obtain ⟨j,hjj⟩:∃ j,plc p r=j:=⟨_,rfl⟩
   rw [hjj] at hj HQ cP;clear hjj;have HR:=hid hr;have HPS:=hid hps;have q1:∀ W,(Instr.slice 66 (.slice A' n' c') none (some (.int .i64 (j:Int))) none).run Tryz.prog W=.ok (.slice A' j c') W:=fun W=>j0c A' n' c' j (Nat.le_trans hj hr.cap) W
   have q2:∀ W,(Instr.slice 66 (.slice A' n' c') (some (.int .i64 (j:Int))) none none).run Tryz.prog W=.ok (.slice (if c'=j then A' else A'.map (·.add j)) (n' - j) (c' - j)) W:=fun W=>h1e A' n' c' j hj W
   have HT2:=hid (hr.tail hj);generalize (if c'=j then A' else A'.map (·.add j))=A3 at q2 HT2;generalize c' - j=c3 at q2 HT2;generalize hn3:n' - j=n3 at q2 HT2;clear hn3 hr hps hrw;go_wp2_with fail
   refine cP.mono ?_;rintro e w1 ⟨rfl,hb1⟩;have hps1:PS W0 w1 v xs:=⟨OwnG.kept HPS.out.own hb1,fun x hx=>⟨(HPS.out.parts x hx).at_.below hb1,fun hne a e=>by
    have:=(HPS.out.parts x hx).apart hne a e;exact ⟨Nat.lt_of_lt_of_le this.1 hb1.size,this.2⟩⟩,HPS.out.below.trans (hb1.mono HPS.out.below.size)⟩
   have hh:=(HR.out.head hj).below hps1.below;have hy:Lies w1 v.ownBlock (A',c',r.take j):=by
    refine ⟨by rw [show (A',c',r.take j).2.2.length=j from hh.len];exact hh,fun hne a e=>?_⟩;obtain ⟨b',o',e',hlt',-⟩:=HR.out.row (fun e3=>hne (by show r.take j=[];rw [e3];simp));have e4:some a=some ⟨b',o',none⟩:=e.symm.trans e';cases e4;refine ⟨Nat.lt_of_lt_of_le hlt' hps1.below.size,fun e5=>?_⟩;have:=(World.ownsRow.lt hps1.own b' e5.symm).1;omega
   obtain ⟨v',W',hrun,hps2,-⟩:=hps1.two A' j c' (r.take j) hh.len hy p (by omega);have Q:=hid hrun;have HQ2:=hid (HQ.out (some ⟨w1.heap.size,0,none⟩));have HX:Hid ((xs++[(A',c',r.take j),(some ⟨w1.heap.size,0,none⟩,1,[p])]).length=2*(k+1)):=hid (by rw [List.length_append,hx];rfl);have HP2:=hid hps2;clear cP hb1 hps1 hh hy hrun hps2 HQ hx HPS HR;go_wp2_with (at_builtin;(refine g0e rfl (.tmp 20) (.tmp 26) _ rfl rfl rfl Q.out ?_;clear Q))
   go_roundw
   case rel=>exact ⟨k+1,_,_,_,_,_,_,rfl,rfl,by go_num,by omega,HT2.out,HP2.out,HQ2,HX.out⟩
   case measure=>simp [intOf];omega
  ·have hkn:k=n2:=by omega
   subst hkn;have HQ2:Hid (g0t (xs++[(A',c',r)])=T):=hid (by
    have:=hQ.out;rw [List.drop_of_length_le (by have:=HL.out;omega),h8p] at this;rw [<- this,g3m];simp [g0t])
   have hrw:=hr.below hps.below;have hln:=hr.len;subst hln;have hy:Lies wr v.ownBlock (A',c',r):=by
    refine ⟨hrw,fun hne a e=>?_⟩;obtain ⟨b',o',e',hlt',-⟩:=hr.row hne;have e4:some a=some ⟨b',o',none⟩:=e.symm.trans e';cases e4;refine ⟨Nat.lt_of_lt_of_le hlt' hps.below.size,fun e5=>?_⟩;have:=(World.ownsRow.lt hps.own b' e5.symm).1;omega
   obtain ⟨v',W',hrun,hps2,-⟩:=hps.app [(A',c',r)] (fun x hx=>by rw [List.mem_singleton.1 hx];exact hy) 1 rfl #[.slice A' r.length c'] rfl (by omega);obtain ⟨A4,c4,rfl,h4,-,-,h5⟩:=OwnG.row hps2.own;have cJ:=g1h A4 _ c4 _ W' rfl (by rw [List.length_append,hx];simp;omega) h5 (fun x hx=>(hps2.parts x hx).at_) (by rw [HQ2.out];have:=HTl.out;omega);rw [HQ2.out] at cJ;have HBB:=hid hps2.below;generalize (xs++[(A',c',r)]).length=n4 at hrun cJ
   have Q:=hid hrun;clear hrun hps2 h4 h5 hy hrw hQ HQ2;generalize r.length=n' at *;go_wp2_with (at_builtin;(refine g0e rfl (.tmp 32) (.tmp 34) _ rfl rfl rfl Q.out ?_;clear Q))
   refine cJ.mono ?_;rintro e w2 ⟨v2,rfl,ho2,hb2⟩;have HO2:=hid (g2g ho2 (Nat.le_trans HB.out.size HBB.out.size));have HB2:=hid (HB.out.trans ((HBB.out.trans (hb2.mono HBB.out.size)).mono HB.out.size));clear cJ ho2 hb2;go_wp2_with fail
   go_ret
   exact ⟨_,rfl,HO2.out,HB2.out⟩
def set3 (w:World) (b:Nat) (v0 v1 v2:Value):World:=((w.setCell ⟨b,0,none⟩ v0).setCell ⟨b,1,none⟩ v1).setCell ⟨b,2,none⟩ v2
theorem g6v {w:World} {b:Nat} {C:Array Value} (h:At w b C) (hC:C.size=3) (v0 v1 v2:Value):At (set3 w b v0 v1 v2) b #[v0,v1,v2]:=by
 have h1:=((h.set 0 v0 (by omega)).set 1 v1 (by simp;omega)).set 2 v2 (by simp;omega);have e:((C.setIfInBounds 0 v0).setIfInBounds 1 v1).setIfInBounds 2 v2=#[v0,v1,v2]:=by
  rcases C with ⟨l⟩
  match l,hC with
  | [x,y,z],_=>rfl
 rw [e] at h1;exact h1
theorem g2t {w0 w:World} {n b:Nat} (h:Below n w0 w) (hb:n<=b) (v0 v1 v2:Value):Below n w0 (set3 w b v0 v1 v2) :=
 ((h.setCell (p:=⟨b,0,none⟩) hb v0).setCell (p:=⟨b,1,none⟩) hb v1).setCell (p:=⟨b,2,none⟩) hb v2
theorem h3j {w w':World} {row:Option Nat} {B:Nat} {v:Value} {l:List Int} (h:OwnI w B v l) (g:w.grownBy w' row) (hne:v.ownBlock=none\/v.ownBlock≠row):OwnI w' B v l:=by
 obtain ⟨hl,h | ⟨k,cap,cur,rfl,hg,hh,h4,h5,h6,h7⟩⟩:=h
 ·exact ⟨hl,.inl h⟩
 ·exact ⟨hl,.inr ⟨k,cap,cur,rfl,hg,by rw [g.block k (Array.getElem?_eq_some_iff.1 hh).1 (by rcases hne with h | h;cases h;exact h)];exact hh,h4,h5,h6,h7⟩⟩
theorem g0r (w:World) (b j:Nat) (v:Value):w.grownBy (w.setCell ⟨b,j,none⟩ v) (some b) :=
 ⟨rfl,rfl,rfl,by simp,fun k _ hk=>Below.heap_setCell _ _ _ k (fun e=>hk (by rw [e]))⟩
theorem h2l (w:World) (b:Nat) (v0 v1 v2:Value):w.grownBy (set3 w b v0 v1 v2) (some b):=((g0r w b 0 v0).trans (g0r _ b 1 v1)).trans (g0r _ b 2 v2)
theorem g6p {w:World} {B b:Nat} {v:Value} {l:List Int} (h:OwnI w B v l) (hb:b<B) (v0 v1 v2:Value):OwnI (set3 w b v0 v1 v2) B v l :=
 h3j h (h2l _ _ _ _ _) (by
  by_cases e:v.ownBlock=none
  ·exact .inl e
  ·refine .inr fun e2=>?_
   have:=(World.ownsRow.lt h b e2).1;omega)
theorem g7b {w:World} {b b':Nat} {C:Array Value} (h:At w b C) (hne:b'≠b) (v0 v1 v2:Value):At (set3 w b' v0 v1 v2) b C:=((h.set_other (i:=0) (v:=v0) hne).set_other (i:=1) (v:=v1) hne).set_other (i:=2) (v:=v2) hne
theorem g2i {w:World} {b:Nat} {p:Po} {a:La} (h:At w b (poC p a)):w.cell? ⟨b,0,none⟩=some (.int .i64 p.high)/\w.cell? ⟨b,1,none⟩=some (.slice a.A1 p.free.length a.c1)/\w.cell? ⟨b,2,none⟩=some (.slice a.A2 p.limbo.length a.c2):=⟨h.2.2 0 _ rfl,h.2.2 1 _ rfl,h.2.2 2 _ rfl⟩
def p4b (q:Po) (w:World) (e:Ending) (w':World):Prop:=∃ a,e=.returned (poV q a)/\PoAt w' q a/\Below w.heap.size w w'/\∀ x,a.A1=some x->w.heap.size+2<=x.block
def p3f (q:Po) (w:World) (e:Ending) (w':World):Prop:=∃ a,e=.returned (poV q a)/\PoAt w' q a/\Below w.heap.size w w'/\(∀ x,a.A1=some x->w.heap.size+2<=x.block)/\a.A2=none
theorem h0w (w:World) (p:Po) (a:La):At ((w.alloc (.cells (poC p a) 70)).alloc (.cells (poC {high:=0} {}) 70)) w.heap.size (poC p a)/\At ((w.alloc (.cells (poC p a) 70)).alloc (.cells (poC {high:=0} {}) 70)) (w.heap.size+1) (poC {high:=0} {}) /\
 Below w.heap.size w ((w.alloc (.cells (poC p a) 70)).alloc (.cells (poC {high:=0} {}) 70))/\((w.alloc (.cells (poC p a) 70)).alloc (.cells (poC {high:=0} {}) 70)).heap.size=w.heap.size+2:=by
 have h1:=j0h w p a;have h2:=j0h (w.alloc (.cells (poC p a) 70)) {high:=0} {};rw [World.size_alloc] at h2;exact ⟨h1.below (n:=w.heap.size+1) ((Below.refl _ _).alloc (by simp) _) (by omega),h2,(g0a w _).alloc (by simp) _,by simp⟩
theorem j0r (p:Po) (a:La) (w:World) (h:PoAt w p a) (hf:p.free.length<=100000) (hl:p.limbo.length<=100000) :
 Calls Tryz.prog 111 #[poV p a] w (p3f {high:=p.high,free:=layAll p.free p.limbo} w):=by
 obtain ⟨t1,t2,t3,t4⟩:=h0w w p a;have h0:=h.below t3;have AT:=hid t1;have AZ:=hid t2;have BB:=hid t3;unfold poV;obtain ⟨W0,hW0⟩:∃ W0,(w.alloc (.cells (poC p a) 70)).alloc (.cells #[.int .i64 0,.slice none 0 0,.slice none 0 0] 70)=W0:=⟨_,rfl⟩;have e0:poC {high:=0} {}=#[.int .i64 0,.slice none 0 0,.slice none 0 0]:=rfl;rw [e0] at t4 h0 AT AZ BB;rw [hW0] at AT AZ BB t4 h0;have HD:Below W0.heap.size W0 W0.drew:=(Below.refl _ _).drew
 have cL:=h1o a.A1 a.A2 _ a.c1 _ a.c2 p.free p.limbo W0.drew (h0.f.below HD) (h0.l.below HD) hf hl;have c0:W0.drew.cell? ⟨w.heap.size,0,none⟩=some (.int .i64 p.high):=AT.out.2.2 0 _ rfl;have c1:W0.drew.cell? ⟨w.heap.size,1,none⟩=some (.slice a.A1 p.free.length a.c1):=AT.out.2.2 1 _ rfl;have c2:W0.drew.cell? ⟨w.heap.size,2,none⟩=some (.slice a.A2 p.limbo.length a.c2):=AT.out.2.2 2 _ rfl;have HS:=hid t4
 clear t1 t2 t3 t4 h0 h hf hl HD e0;go_enter Tryz.func111,Tryz.ntmps111
 go_wp2_with fail
 generalize layAll p.free p.limbo=R at *;have K0:=hid (show W0.drew.cell? ⟨w.heap.size,0,none⟩=some (.int .i64 p.high)/\W0.drew.cell? ⟨w.heap.size,1,none⟩=some (.slice a.A1 p.free.length a.c1)/\W0.drew.cell? ⟨w.heap.size,2,none⟩=some (.slice a.A2 p.limbo.length a.c2) from ⟨c0,c1,c2⟩);clear hW0 c0 c1 c2;go_region_held3 (fun w'=>w'.cell? ⟨w.heap.size,0,none⟩=some (.int .i64 p.high)/\w'.cell? ⟨w.heap.size,1,none⟩=some (.slice a.A1 p.free.length a.c1)/\w'.cell? ⟨w.heap.size,2,none⟩=some (.slice a.A2 p.limbo.length a.c2))
  (with_reducible (first | exact K0.out | exact K1.out | exact K2.out))
  ((go_at_call 162;(with_reducible refine cL.mono ?_);rintro e w1 ⟨v,rfl,ho,hb⟩
    have hb':Below W0.heap.size W0 w1:=(Below.refl W0.heap.size W0).drew.trans hb;have K1:=hid (g2i (AT.out.below hb' AT.out.1));have HO:=hid (g6p ho (b:=w.heap.size+1) (show w.heap.size+1<W0.drew.heap.size by have:=HS.out;simp;omega) (.int .i64 p.high) v (.slice none 0 0));have AZ2:=hid (AZ.out.below hb' (by have:=HS.out;omega));have A3:=hid (g6v AZ2.out rfl (.int .i64 p.high) v (.slice none 0 0))
    have B3:=hid (g2t (BB.out.trans (hb'.mono BB.out.size)) (Nat.le_succ _) (.int .i64 p.high) v (.slice none 0 0));have K2:=hid (g2i (g7b (AT.out.below hb' AT.out.1) (Nat.succ_ne_self _) (.int .i64 p.high) v (.slice none 0 0)));have r0:w1.cell? ⟨w.heap.size+1,0,none⟩=some (.int .i64 0):=AZ2.out.2.2 0 _ rfl;have r1:w1.cell? ⟨w.heap.size+1,1,none⟩=some (.slice none 0 0):=AZ2.out.2.2 1 _ rfl
    have r2:w1.cell? ⟨w.heap.size+1,2,none⟩=some (.slice none 0 0):=AZ2.out.2.2 2 _ rfl;have fz:=AZ2.out.2.1;obtain ⟨A',n',c',rfl,hN,hbl⟩:=g3v HO.out;have HBL:=hid hbl;clear hbl;have HN:=hid hN;unfold set3 at K2;clear ho hb hb' hN HO))
 go_wp2_with fail
 change bodyPost _ _ _ _ _ (set3 w1 (w.heap.size+1) (.int .i64 p.high) (.slice A' n' c') (.slice none 0 0));generalize set3 w1 (w.heap.size+1) (.int .i64 p.high) (.slice A' n' c') (.slice none 0 0)=W9 at *;clear r0 r1 r2 fz K0 K1 K2;have c0:=A3.out.2.2 0 _ rfl;have c1:=A3.out.2.2 1 _ rfl;have c2:=A3.out.2.2 2 _ rfl;have hl:=HN.out.len;subst hl;refine bodyPost_ret (v:=poV {high:=p.high,free:=R} {A1:=A',c1:=c'}) (by simp [results,Tryz.results111,go_sem, *]) rfl ?_
 exact ⟨_,rfl,⟨HN.out,NAt.none _⟩,B3.out,⟨fun x e=>by have:=HBL.out x e;have:=HS.out;simp at *;omega,rfl⟩⟩
theorem k6e (p:Po) (a:La) (w:World) (h:PoAt w p a) (hf:p.free.length<=100000) (hl:p.limbo.length<=100000) :
 Calls Tryz.prog 111 #[poV p a] w (p4b {high:=p.high,free:=layAll p.free p.limbo} w) :=
 (j0r p a w h hf hl).mono (fun _ _ ⟨a,h1,h2,h3,h4⟩=>⟨a,h1,h2,h3,h4.1⟩)
end Go.Proofs.YtglejnkoojpelaaGreat.Pool

import Derived.Test.YtbhfammnffecoaaGreatMT13
import Derived.Test.YtbhfammnffecoaaGreatWT2
set_option maxRecDepth 100000
set_option maxHeartbeats 32000000
namespace Go.Proofs.YtbhfammnffecoaaGreat.Tree
open Go.ChangeShapes Go.WideShapes Go.ChangeAt Go.WideMaps Go.WideElems Go.RowKit Go.Deep Gen
open Page
open Lib (hid)
structure CallT where
 kind:Int
 key:Disk.Bs
 val:Disk.Bs
abbrev callT (x:CallT):Array Value:=#[.int .i64 x.kind,strV x.key,strV x.val]
def Script (W:World) (A:Option Addr) (l:List CallT):Prop:=l≠[]->∃ b off,A=some ⟨b,off,none⟩/\b<W.heap.size/\∀ j (h:j<l.length),W.rangeAt b (off+j*3) (callT l[j]).toList
theorem cells_tcall:Tryz.prog.cellsOf 32=3:=by kernel_rfl
theorem size_tcall:(Tryz.prog.info? 32).map (·.size)=some 3:=by kernel_rfl
theorem load_callT {w:World} {b o:Nat} {x:CallT} (h:w.rangeAt b o (callT x).toList):(Instr.loadAt 32 (.pointer (some ⟨b,o,none⟩))).run Tryz.prog w=.ok (.agg (callT x)) w:=by
 have:=run_loadAt_mid (P:=Tryz.prog) w b o 32 (callT x).toList _ h Tryz.underlying32 rfl (by simpa using size_tcall)
 simpa using this
section
variable {H:Type} {enc:TypeId×Value->H} {W:World} {fuel:Nat} {x:DataW H×List MemPlace}
theorem open_tcall {cs':List Value} (hf:DataW.trod enc Tryz.prog W 0 (fun _=>true) true fuel 32 cs'=some x):∃ c:CallT,cs'=(callT c).toList:=by
 obtain ⟨xs,n,_,_,hlen,hxl,hg⟩:=DataW.trod_struct Tryz.underlying32 hf;rw [cells_tcall] at hlen;have h0:=hg 0 _ rfl;have h1:=hg 1 _ rfl;have h2:=hg 2 _ rfl
 match cs',hlen,xs,hxl with
 | [v0,v1,v2],_,[y0,y1,y2],_ =>
  simp only [List.getElem?_cons_succ,List.getElem?_cons_zero] at h0 h1 h2;obtain ⟨k0,e0,_,w0⟩:=DataW.trod_int Tryz.underlying3 h0;obtain ⟨s1,e1⟩:=open_str1 h1;obtain ⟨s2,e2⟩:=open_str1 h2;refine ⟨⟨k0,s1,s2⟩,?_⟩;rw [(List.cons.inj (show [v0]=[Value.int .i64 k0] from e0)).1,(List.cons.inj e1).1,(List.cons.inj e2).1]
end
theorem open_script {H:Type} {enc:TypeId×Value->H} {W:World} {base:Nat} {v:Value} {d:DataW H} {ps:List MemPlace} (hval:Value.okWide Tryz.prog W .any base 23 v)
 (h:DataW.Trod enc Tryz.prog W 0 (fun _=>true) true 23 v d ps):∃ (A:Option Addr) (n c:Nat) (l:List CallT),v=.slice A n c/\l.length=n/\n<=c/\c<=maxLen/\Script W A l:=by
 obtain ⟨a0,len,cap,rfl⟩:=okWide_slice Tryz.underlying23 hval;obtain ⟨fuel,hf⟩:=h;rcases open_slice Tryz.underlying23 hf with ⟨hcs,_⟩ | ⟨a,len',cap',m,n,D,Pl,hcs,_,hl,hm,hmm,_,hi⟩
 ·simp [Value.cells] at hcs;obtain ⟨rfl,rfl,rfl⟩:=hcs;exact ⟨none,0,0,[],rfl,rfl,Nat.le_refl _,Nat.zero_le _,fun h=>absurd rfl h⟩
 ·simp [Value.cells] at hcs;obtain ⟨rfl,rfl,rfl⟩:=hcs;have hmc:m=cap:=by simpa using hmm
  subst hmc;obtain ⟨l,hll,hp⟩:=list_of (fun j c=>W.cells? 0 (a.add (j*3)) 3=some (callT c).toList) len (fun j hj=>by
   obtain ⟨cs',hc,ht⟩:=hi j (by omega);rw [cells_tcall] at hc;obtain ⟨c,rfl⟩:=open_tcall ht;exact ⟨c,hc⟩)
  refine ⟨some a,len,m,l,rfl,hll,hl,hm,fun hne=>?_⟩;have h0:0<l.length:=List.length_pos_iff.2 hne;obtain ⟨b,off,spot⟩:=a;have g0:=(World.cells?_some (hp 0 h0)).2.2 0 (by simp);have hspot:spot=none:=by simpa [Addr.add] using World.cell?_spot g0
  subst hspot;rw [add_none,add_none] at g0;refine ⟨b,off,rfl,block_lt_of_cell g0,fun j hj i v hv=>?_⟩;have g:=(World.cells?_some (hp j hj)).2.2;simp only [add_none] at g;have hi:i<((callT l[j]).toList).length:=(List.getElem?_eq_some_iff.1 hv).1;exact (g i (by simpa using hi)).trans hv
theorem small_any (x:CallT) (w:World):Calls Tryz.prog 13 #[.agg (callT x)] w (fun e w'=>e=.returned (.bool (decide (x.key.length<=100/\x.val.length<=200)))/\Below w.heap.size w w'):=by
 have b1:=Pool.below_box w (.cells (callT x) 32);have a1:=Store.at_new w (callT x) 32;obtain ⟨k,y,v⟩:=x;obtain ⟨ks,hks⟩:∃ ks,strB y=ks:=⟨_,rfl⟩;obtain ⟨vs,hvs⟩:∃ vs,strB v=vs:=⟨_,rfl⟩;have k1:ks.size=y.length:=by rw [<- hks];exact Page.strB_size y
 have v1:vs.size=v.length:=by rw [<- hvs];exact Page.strB_size v
 have ek:strV y=.string ks:=by rw [<- hks]
 have ev:strV v=.string vs:=by rw [<- hvs]
 rw [show (decide ((⟨k,y,v⟩:CallT).key.length<=100/\(⟨k,y,v⟩:CallT).val.length<=200))=decide (ks.size<=100/\vs.size<=200) by rw [k1,v1]];have e0:callT ⟨k,y,v⟩=#[.int .i64 k,.string ks,.string vs]:=by show #[_,strV y,strV v]=_;rw [ek,ev]
 rw [e0] at b1 a1 ⊢;obtain ⟨W1,hW1⟩:∃ W1,w.alloc (.cells #[.int .i64 k,.string ks,.string vs] 32)=W1:=⟨_,rfl⟩;rw [hW1] at b1 a1;have c1:W1.cell? ⟨w.heap.size,1,none⟩=some (.string ks):=a1.2.2 1 _ rfl;have c2:W1.cell? ⟨w.heap.size,2,none⟩=some (.string vs):=a1.2.2 2 _ rfl;have B1:=hid b1;clear b1 a1 hks hvs k1 v1 ek ev e0
 by_cases h1:ks.size<=100
 ·by_cases h2:vs.size<=200
  ·have ed:decide (ks.size<=100/\vs.size<=200)=true:=decide_eq_true ⟨h1,h2⟩;rw [ed];have t1:(ks.size:Int)<=100:=by omega
   have t2:(vs.size:Int)<=200:=by omega
   clear h1 h2 ed;go_enter Tryz.func13,Tryz.ntmps13
   go_wp2_with fail
   go_ret
   exact ⟨rfl,B1.out⟩
  ·have ed:decide (ks.size<=100/\vs.size<=200)=false:=decide_eq_false (fun h=>h2 h.2);rw [ed];have t1:(ks.size:Int)<=100:=by omega
   have t2:¬ (vs.size:Int)<=200:=by omega
   clear h1 h2 ed;go_enter Tryz.func13,Tryz.ntmps13
   go_wp2_with fail
   go_ret
   exact ⟨rfl,B1.out⟩
 ·have ed:decide (ks.size<=100/\vs.size<=200)=false:=decide_eq_false (fun h=>h1 h.1);rw [ed];have t1:¬ (ks.size:Int)<=100:=by omega
  clear h1 ed;go_enter Tryz.func13,Tryz.ntmps13
  go_wp2_with fail
  go_ret
  exact ⟨rfl,B1.out⟩
end Go.Proofs.YtbhfammnffecoaaGreat.Tree

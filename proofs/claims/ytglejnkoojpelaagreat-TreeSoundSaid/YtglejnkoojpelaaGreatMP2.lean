import Derived.Test.YtglejnkoojpelaaGreatMP1
import Derived.Deep.RegionWith
import Derived.Deep.RegionHeld3
import Derived.Test.YtglejnkoojpelaaGreatMC1
set_option maxRecDepth 100000
set_option maxHeartbeats 32000000
namespace Go.Proofs.YtglejnkoojpelaaGreat.Page
open Go.RowKit Gen
open Lib (hid)
theorem lits {α:Type} {enc:α->Value} (w:World) (C:Array Value) (t:TypeId) (fr:Nat×Nat) (xs:List α) (h:C=(xs.map enc).toArray):RowG (w.alloc (.cells C t fr)) enc (some ⟨w.heap.size,0,none⟩) xs:=by
 subst h;exact j4m _ _ _ _ _ fun k hk=>by simp [hk]
theorem g1z.nil (w:World):g1z w []:=fun x hx=>by cases hx
theorem g1z.cons {w:World} {A:Option Addr} {n c:Nat} {l:Bs} {xs:List Part} (h:BytesAt w A n c l) (t:g1z w xs):g1z w ((A,c,l) :: xs):=fun x hx=>by
 rcases List.mem_cons.1 hx with rfl | hx
 ·exact ⟨h.nil,h.row⟩
 ·exact t x hx
theorem BytesAt.alloc {w:World} {A:Option Addr} {n c:Nat} {l:Bs} (h:BytesAt w A n c l) (o:Obj):BytesAt (w.alloc o) A n c l:=h.below ((Below.refl _ _).alloc (Nat.le_refl _) o)
theorem g2d {w:World} {A:Option Addr} {n c:Nat} {l:Bs} (h:BytesAt w A n c l):Value.slice A n c=encS (A,c,l):=by rw [encS,h.len]
theorem g4m (x:Int) (w:World) (h0:0<=x) (h1:x<=9223372036854775807):Calls Tryz.prog 265 #[.int .i64 x] w (Lays (be 2 x.toNat) w):=by
 obtain ⟨m,rfl⟩:=Int.eq_ofNat_of_zero_le h0;have hc:=g6t 2 m w (by omega) (by omega);have e:IntKind.u64.wrap (m:Int)=m:=by rw [IntKind.wrap_u64];omega
 go_enter Tryz.func265,Tryz.ntmps265
 go_wp2_with fail
 refine hc.mono ?_;rintro e w1 ⟨A,n,c,rfl,h,b,f⟩;have HF:=hid f;clear f;go_wp2_with fail
 go_ret
 exact ⟨_,_,_,rfl,h,b,HF.out⟩
theorem k8m (W:World) (l:Bs) (S:ByteArray) (hS:strB l=S) (hl:l.length<=1000000):∃ A c W',(convert 9 181 (.string S)).run Tryz.prog W=.ok (.slice A S.size c) W'/\BytesAt W' A S.size c l/\Below W.heap.size W W':=by
 have hsz:S.size=l.length:=by rw [<- hS];rfl
 refine ⟨_,_,_,run_bytes_of_string W _ _ 5 S Tryz.underlying9 Tryz.underlying181 Tryz.underlying5,⟨hsz.symm,grownCap_ge _ _ _ _,grownCap_le_maxLen _ _ _ _ (by simp only [maxLen];omega),(fun h=>by cases h),?_⟩,(Below.refl _ W).drew.alloc (Nat.le_refl _) _⟩;refine j4m W.drew _ _ _ l fun k hk=>?_
 have hk2:k<S.data.size:=by have:S.data.size=S.size:=rfl;omega
 have h3:S.data[k]=l[k]:=by subst hS;simp [strB]
 unfold bytesRow;rw [Array.getElem?_append_left (by simpa using hk2)];simp only [Array.getElem?_map,Array.getElem?_eq_getElem hk2,h3,Option.map_some]
theorem g9u (s:Bs) (w:World) (hs:s.length<=1000000):Calls Tryz.prog 274 #[strV s] w (Lays (be 1 s.length++s) w):=by
 obtain ⟨S,hS⟩:∃ S,strB s=S:=⟨_,rfl⟩;have hsz:S.size=s.length:=by rw [<- hS];rfl
 have hc:=g6t 1 S.size w (by omega) (by omega);have e:IntKind.u64.wrap (S.size:Int)=(S.size:Int):=by rw [IntKind.wrap_u64];omega
 rw [show strV s=.string S by rw [<- hS]];have HX:=hid (fun W=>k8m W s S hS hs);have HS:=hid hsz;have HSL:=hid hs;clear hS hsz hs;go_enter Tryz.func274,Tryz.ntmps274
 go_wp2_with fail
 refine hc.mono ?_;rintro e w1 ⟨A,n,c,rfl,h1,b1,-⟩;obtain ⟨A2,c2,W2,hrun,h2,b2⟩:=HX.out w1;have B2:=hid (b1.trans (b2.mono b1.size));have H1:=hid (h1.below b2);have H2:=hid h2;clear hc b1 h1 b2 h2 HX;go_wp2_with fail
 have hj:=g1h (some ⟨W2.heap.size,0,none⟩) 2 2 [(A,c,be 1 S.size),(A2,c2,s)] (W2.alloc (.cells #[.slice A n c,.slice A2 S.size c2] 181)) rfl (by omega) (lits _ _ _ _ _ (by rw [g2d H1.out,g2d H2.out];rfl)) ((g1z.nil _).cons (H2.out.alloc _) |>.cons (H1.out.alloc _)) (by simp [g0t,g3g];have:=HSL.out;omega);refine hj.mono ?_;rintro e w3 ⟨A3,n3,c3,rfl,h3,b3,f3⟩;have HF3:=hid (fun a ha=>Nat.le_trans (B2.out.alloc B2.out.size _).size (f3 a ha))
 have HB3:=hid ((B2.out.alloc B2.out.size _).trans (b3.mono (B2.out.alloc B2.out.size _).size));have H3:=hid h3;clear b3 h3 hj hrun f3;go_wp2_with fail
 go_ret
 refine ⟨_,_,_,rfl,?_,HB3.out,HF3.out⟩;have h:=H3.out;rw [show g0t [(A,c,be 1 S.size),(A2,c2,s)]=be 1 s.length++s by simp [g0t,HS.out]] at h;exact h
def g5s (n:Nat) (l:Bs):Bs:=l++List.replicate (n-l.length) 0
theorem h6x (A:Option Addr) (n c:Nat) (l:Bs) (k:Nat) (w:World) (h:BytesAt w A n c l) (hn:n<=k) (hk:k<=10000):Calls Tryz.prog 259 #[.slice A n c,.int .i64 (k:Int)] w (Lays (g5s k l) w):=by
 have hmk:=h8l (k-n) (by omega) w;rw [show ((k-n:Nat):Int)=(k:Int)-(n:Int) by omega] at hmk;have HB1:=hid ((Below.refl w.heap.size w).alloc (Nat.le_refl _) (.cells (rowC (List.replicate (k-n) 0)) 5));have HB:Hid (BytesAt (w.alloc (.cells (rowC (List.replicate (k-n) 0)) 5)) (some ⟨w.heap.size,0,none⟩) (k-n) (k-n) (List.replicate (k-n) 0)):=hid ⟨by simp,Nat.le_refl _,by simp only [maxLen];omega,(fun h=>by cases h),k2v (At.of_block (heap_alloc_last w _))⟩
 have HH:=hid (h.alloc (.cells (rowC (List.replicate (k-n) 0)) 5));have hsz:(w.alloc (.cells (rowC (List.replicate (k-n) 0)) 5)).heap.size=w.heap.size+1:=by simp
 have hj:=g1h (some ⟨(w.alloc (.cells (rowC (List.replicate (k-n) 0)) 5)).heap.size,0,none⟩) 2 2 [(A,c,l),(some ⟨w.heap.size,0,none⟩,k-n,List.replicate (k-n) 0)] ((w.alloc (.cells (rowC (List.replicate (k-n) 0)) 5)).alloc (.cells #[.slice A n c,.slice (some ⟨w.heap.size,0,none⟩) (k-n) (k-n)] 181)) rfl (by omega)
  (lits _ _ _ _ _ (by rw [g2d HH.out,g2d HB.out];rfl)) ((g1z.nil _).cons (HB.out.alloc _) |>.cons (HH.out.alloc _)) (by simp [g0t,h.len];omega)
 rw [hsz] at hj;have HJ:=hid hj;have HL:=hid h.len;clear h hj hsz HB HH;generalize rowC (List.replicate (k-n) 0)=R at *;go_enter Tryz.func259,Tryz.ntmps259
 go_wp2_with fail
 refine HJ.out.mono ?_;rintro e w3 ⟨A3,n3,c3,rfl,h3,b3,f3⟩;have HF3:=hid (fun a ha=>Nat.le_trans (HB1.out.alloc HB1.out.size _).size (f3 a ha));have HB3:=hid ((HB1.out.alloc HB1.out.size _).trans (b3.mono (HB1.out.alloc HB1.out.size _).size));have H3:=hid h3;clear b3 h3 HJ hmk f3;go_wp2_with fail
 go_ret
 refine ⟨_,_,_,rfl,?_,HB3.out,HF3.out⟩;have h:=H3.out;rw [show g0t [(A,c,l),(some ⟨w.heap.size,0,none⟩,k-n,List.replicate (k-n) 0)]=g5s k l by simp [g0t,g5s,HL.out]] at h;exact h
def OwnS (w:World) (B:Nat) (v:Value) (xs:List Part):Prop:=OwnG w 181 encS B v xs/\∀ x∈xs,(x.1=none->x.2.1=0)/\BRow w x.1 x.2.2/\(x.2.2≠[]->∀ a,x.1=some a->some a.block≠v.ownBlock)
theorem OwnS.parts {w:World} {B:Nat} {v:Value} {xs:List Part} (h:OwnS w B v xs):g1z w xs:=fun x hx=>⟨(h.2 x hx).1,(h.2 x hx).2.1⟩
theorem OwnS.below {w w':World} {B:Nat} {v:Value} {xs:List Part} (h:OwnS w B v xs) (hb:Below w.heap.size w w'):OwnS w' B v xs:=⟨OwnG.kept h.1 hb,fun x hx=>⟨(h.2 x hx).1,RowG.below (h.2 x hx).2.1 hb,(h.2 x hx).2.2⟩⟩
theorem j9s:Elem Tryz.prog 305 181 encS :=
 ⟨Tryz.underlying305,⟨_,_,24,rfl,rfl,rfl,rfl,rfl,by omega⟩,fun _=>rfl⟩
theorem g3z {α:Type} {enc:α->Value} {w w':World} {A:Option Addr} {l:List α} {row:Option Nat} (h:RowG w enc A l) (g:w.grownBy w' row) (hA:l≠[]->∀ a,A=some a->some a.block≠row):RowG w' enc A l:=fun hne=>by
 obtain ⟨b,off,e,hlt,hc⟩:=h hne;refine ⟨b,off,e,Nat.lt_of_lt_of_le hlt g.size,fun k hk=>?_⟩;rw [World.cell?_of_block (w:=w) (a:=⟨b,off+k,none⟩) (g.block b hlt (hA hne _ e))];exact hc k hk
theorem h3d (W:World) (B:Nat) (v:Value) (xs zs:List Part) (h:OwnS W B v xs) (C:Array Value) (m:Nat) (hm:zs.length=m) (hC:C=(zs.map encS).toArray) (hz:∀ x∈zs,(x.1=none->x.2.1=0)/\BRow W x.1 x.2.2/\(x.2.2≠[]->∀ a,x.1=some a->some a.block≠v.ownBlock))
 (hn:xs.length+m<=1000000000000) (hB:B<=W.heap.size) :
 ∃ v' W',(Builtin.append_ #[305,305] 305 #[v,.slice (some ⟨W.heap.size,0,none⟩) m m]).run Tryz.prog (W.alloc (.cells C 181))=.ok v' W'/\OwnS W' B v' (xs++zs)/\(W.alloc (.cells C 181)).grownBy W' v.ownBlock:=by
 have hb0:Below W.heap.size W (W.alloc (.cells C 181)):=(Below.refl _ _).alloc (Nat.le_refl _) _;have h2:=h.below hb0;obtain ⟨v',W',hrun,ho,hg,hv⟩:=g1x j9s (W.alloc (.cells C 181)) B v xs h2.1 (some ⟨W.heap.size,0,none⟩) m m zs hm (fun h=>by cases h) (lits W C _ _ zs hC) hn (Nat.le_trans hB (by simp));refine ⟨v',W',hrun,⟨ho,fun x hx=>?_⟩,hg⟩;have h3:(x.1=none->x.2.1=0)/\BRow W x.1 x.2.2/\(x.2.2≠[]->∀ a,x.1=some a->some a.block≠v.ownBlock):=by
  rcases List.mem_append.1 hx with hx | hx
  ·exact h.2 x hx
  ·exact hz x hx
 refine ⟨h3.1,g3z (RowG.below h3.2.1 hb0) hg h3.2.2,fun hne a ha=>?_⟩;rcases hv with hv | hv
 ·rw [hv];exact h3.2.2 hne a ha
 ·obtain ⟨b,off,e,hlt,_⟩:=h3.2.1 hne;rw [ha] at e;cases e;rw [hv];simp;omega
theorem j4e (w:World) (B:Nat) (C:Array Value) (m:Nat) (zs:List Part) (hm:zs.length=m) (hC:C=(zs.map encS).toArray) (hz:∀ x∈zs,(x.1=none->x.2.1=0)/\BRow w x.1 x.2.2) (hB:B<=w.heap.size) (hn:m<=1000):OwnS (w.alloc (.cells C 181)) B (.slice (some ⟨w.heap.size,0,none⟩) m m) zs:=by
 subst hC;refine ⟨⟨by simp,.inr ⟨w.heap.size,m,(zs.map encS).toArray,by rw [hm],hB,heap_alloc_last w _,by omega,by simp only [maxLen];omega,by simp [hm],by simp [List.take_of_length_le]⟩⟩,fun x hx=>⟨(hz x hx).1,RowG.below (hz x hx).2 ((Below.refl _ _).alloc (Nat.le_refl _) _),fun hne a ha=>?_⟩⟩;obtain ⟨b,off,e,hlt,_⟩:=(hz x hx).2 hne;rw [ha] at e;cases e;simp [Value.ownBlock];omega
theorem k4b {w:World} {B:Nat} {v:Value} {xs:List Part} (h:OwnS w B v xs) {a:Addr} (ha:w.heap.size<=a.block):some a.block≠v.ownBlock:=fun e=>by
 have:=(World.ownsRow.lt h.1 a.block e.symm).2;omega
theorem g0i {P:Program} {ops:Array Oper} {o:Oper} {a:Act} {K:Act->World->Prop} {Q:Exit->Act->World->Prop} {X:Prop} {w w':World} {v u v':Value} (hgd:o.guard=none) (s x:Operand) (t t':TypeId)
 (ho:o.op=.call {callee:=.builtin .append,args:=#[s,x],argTypes:=#[t,t']}) (hs:a.eval s=v) (hx:a.eval x=u) (hrun:(Builtin.append_ #[t,t'] o.type #[v,u]).run P w=.ok v' w')
 (h:K (a.put o.dst v') w'):if Region.wanted o (yielded ops a.tmps)=true then Oper.wp P o a w K Q else X:=by
 have hw:Region.wanted o (yielded ops a.tmps)=true:=by simp [Region.wanted,hgd]
 rw [if_pos hw];unfold Oper.wp;simp [execOp,ho,resolve,invoke,builtin,hs,hx,hrun,Result.andThen];exact h
def num2 (x:Int):Bs:=be 2 x.toNat
def txt (s:Bs):Bs:=be 1 s.length++s
def g5f (p:Pg):Bs:=num2 p.pairs.length++p.pairs.flatMap fun x=>txt x.1++txt x.2
def g5t (p:Pg):Bs:=num2 p.pages.length++p.pages.flatMap num2++num2 p.next
theorem g1a (x:Int):(num2 x).length=2:=g3g _ _
theorem h9w (s:Bs):(txt s).length=1+s.length:=by rw [txt,List.length_append,g3g]
theorem g8b {w:World} {b o:Nat} {v:Value} (h:w.cell? ⟨b,o,none⟩=some v):b<w.heap.size:=by
 rcases Nat.lt_or_ge b w.heap.size with h' | h'
 ·exact h'
 ·simp [World.cell?,Array.getElem?_eq_none h'] at h
theorem cell_below {w w':World} {b o:Nat} {v:Value} (h:w.cell? ⟨b,o,none⟩=some v) (hb:Below w.heap.size w w'):w'.cell? ⟨b,o,none⟩=some v:=by
 rw [hb.cell (p:=⟨b,o,none⟩) (g8b h)];exact h
theorem j6g {w1:World} {b1 o1 b2 o2:Nat} {u v:Value} (h1:w1.cell? ⟨b1,o1,none⟩=some u) (h2:w1.cell? ⟨b2,o2,none⟩=some v) :
 ∀ W,Below w1.heap.size w1 W->W.cell? ⟨b1,o1,none⟩=some u/\W.cell? ⟨b2,o2,none⟩=some v:=fun _ hb=>⟨cell_below h1 hb,cell_below h2 hb⟩
theorem g3m (xs ys:List Part):g0t (xs++ys)=g0t xs++g0t ys:=by simp [g0t]
def p2b (w:World) (H:Bs) (ps:List (Bs×Bs)) (v i:Value) (wr:World):Prop:=∃ (k:Nat) (xs:List Part),i=.int .i64 k/\k<=ps.length/\OwnS wr w.heap.size v xs/\xs.length=1+2*k/\g0t xs=H++(ps.take k).flatMap (fun x=>txt x.1++txt x.2)/\Below w.heap.size w wr
theorem h5j {α:Type} (f:α->Bs) (l:List α) {k:Nat} (h:k<l.length):(l.take (k+1)).flatMap f=(l.take k).flatMap f++f l[k]:=by
 rw [List.take_succ_eq_append_getElem h,List.flatMap_append];simp
theorem h7a {w wr W1 w2 w3:World} {B:Nat} {v:Value} {xs:List Part} {A3 A4:Option Addr} {n3 c3 n4 c4:Nat} {tx ty:Bs} (ho:OwnS wr B v xs) (hb:Below w.heap.size w wr) (hwB:w.heap.size<=B) (hB:B<=wr.heap.size) (bw:Below wr.heap.size wr W1) (r2:Below W1.heap.size W1 w2) (r3:Below W1.heap.size W1 w3)
 (h3:BytesAt w3 A3 n3 c3 tx) (h4:BytesAt w3 A4 n4 c4 ty) (f3:∀ a,A3=some a->W1.heap.size<=a.block) (f4:∀ a,A4=some a->w2.heap.size<=a.block) (hn:xs.length<=1000) :
 ∃ v' W',(Builtin.append_ #[305,305] 305 #[v,.slice (some ⟨w3.heap.size,0,none⟩) 2 2]).run Tryz.prog (w3.alloc (.cells #[.slice A3 n3 c3,.slice A4 n4 c4] 181))=.ok v' W'/\OwnS W' B v' (xs++[(A3,c3,tx),(A4,c4,ty)])/\Below w.heap.size w W'/\B<=W'.heap.size /\
  ∀ b o,b<w3.heap.size->some b≠v.ownBlock->W'.cell? ⟨b,o,none⟩=w3.cell? ⟨b,o,none⟩:=by
 have sw:=bw.size;have hb3:Below wr.heap.size wr w3:=bw.trans (r3.mono sw);have ho3:=ho.below hb3;have hB3:B<=w3.heap.size:=Nat.le_trans hB hb3.size;have ne:∀ {A:Option Addr} {l:Bs},(∀ a,A=some a->wr.heap.size<=a.block)->(l≠[]->∀ a,A=some a->some a.block≠v.ownBlock):=fun hf _ a ha=>k4b ho (hf a ha)
 obtain ⟨v',W',hrun,ho',hg⟩:=h3d w3 B v xs [(A3,c3,tx),(A4,c4,ty)] ho3 #[.slice A3 n3 c3,.slice A4 n4 c4] 2 rfl (by rw [g2d h3,g2d h4];rfl) (fun x hx=>by
  rcases List.mem_cons.1 hx with rfl | hx
  ·exact ⟨h3.nil,h3.row,ne (fun a ha=>Nat.le_trans sw (f3 a ha))⟩
  ·rcases List.mem_cons.1 hx with rfl | hx
   ·exact ⟨h4.nil,h4.row,ne (fun a ha=>Nat.le_trans (Nat.le_trans sw r2.size) (f4 a ha))⟩
   ·cases hx) (by omega) hB3
 have hb4:Below w.heap.size w (w3.alloc (.cells #[.slice A3 n3 c3,.slice A4 n4 c4] 181)):=(hb.trans (hb3.mono hb.size)).alloc (Nat.le_trans hb.size hb3.size) _;refine ⟨v',W',hrun,ho',hb4.grown hg hb4.size (fun k hk=>Nat.le_trans hwB (World.ownsRow.lt ho.1 k hk).1),Nat.le_trans hB3 (Nat.le_trans (by simp) hg.size),fun b o hlt hne=>?_⟩;rw [World.cell?_of_block (w:=w3.alloc (.cells #[.slice A3 n3 c3,.slice A4 n4 c4] 181)) (a:=⟨b,o,none⟩) (hg.block b (by simp;omega) hne)]
 exact ((Below.refl w3.heap.size w3).alloc (Nat.le_refl _) _).cell hlt
theorem h7l {w wr w3:World} {B:Nat} {v:Value} {xs:List Part} {A3:Option Addr} {n3 c3:Nat} {tx:Bs} (ho:OwnS wr B v xs) (hb:Below w.heap.size w wr) (hwB:w.heap.size<=B) (hB:B<=wr.heap.size) (r3:Below wr.heap.size wr w3)
 (h3:BytesAt w3 A3 n3 c3 tx) (f3:∀ a,A3=some a->wr.heap.size<=a.block) (hn:xs.length<=100000) :
 ∃ v' W',(Builtin.append_ #[305,305] 305 #[v,.slice (some ⟨w3.heap.size,0,none⟩) 1 1]).run Tryz.prog (w3.alloc (.cells #[.slice A3 n3 c3] 181))=.ok v' W'/\OwnS W' B v' (xs++[(A3,c3,tx)])/\Below w.heap.size w W'/\B<=W'.heap.size /\
  ∀ b o,b<w3.heap.size->some b≠v.ownBlock->W'.cell? ⟨b,o,none⟩=w3.cell? ⟨b,o,none⟩:=by
 have ho3:=ho.below r3;have hB3:B<=w3.heap.size:=Nat.le_trans hB r3.size;obtain ⟨v',W',hrun,ho',hg⟩:=h3d w3 B v xs [(A3,c3,tx)] ho3 #[.slice A3 n3 c3] 1 rfl (by rw [g2d h3];rfl) (fun x hx=>by
  rcases List.mem_cons.1 hx with rfl | hx
  ·exact ⟨h3.nil,h3.row,fun _ a ha=>k4b ho (f3 a ha)⟩
  ·cases hx) (by omega) hB3
 have hb4:Below w.heap.size w (w3.alloc (.cells #[.slice A3 n3 c3] 181)):=(hb.trans (r3.mono hb.size)).alloc (Nat.le_trans hb.size r3.size) _;refine ⟨v',W',hrun,ho',hb4.grown hg hb4.size (fun k hk=>Nat.le_trans hwB (World.ownsRow.lt ho.1 k hk).1),Nat.le_trans hB3 (Nat.le_trans (by simp) hg.size),fun b o hlt hne=>?_⟩;rw [World.cell?_of_block (w:=w3.alloc (.cells #[.slice A3 n3 c3] 181)) (a:=⟨b,o,none⟩) (hg.block b (by simp;omega) hne)]
 exact ((Below.refl w3.heap.size w3).alloc (Nat.le_refl _) _).cell hlt
theorem j3i (p:Pg) (a:Lay) (w:World) (hR:PRow w a.A1 p.pairs) (hn6:p.pairs.length<=6) (hs:∀ x∈p.pairs,x.1.length<=100/\x.2.length<=100) (hT:(g5f p).length<=100000):Calls Tryz.prog 261 #[pgV p a] w (Lays (g5f p) w):=by
 have B1:Below w.heap.size w (w.alloc (.cells (pgC p a) 103)):=(Below.refl _ _).alloc (Nat.le_refl _) _;have HB1:=hid B1;have HR:=hid hR;have cL:=g4m p.pairs.length (w.alloc (.cells (pgC p a) 103)) (by omega) (by omega);have HS:=hid hs;unfold g5f at *;have c1:(w.alloc (.cells (pgC p a) 103)).cell? ⟨w.heap.size,1,none⟩=some (.slice a.A1 p.pairs.length a.c1):=by simp [pgC]
 clear hR B1 hs;change Calls _ _ _ _ (Lays (num2 (p.pairs.length:Int)) _) at cL;unfold pgC at HB1 cL c1;generalize hps:p.pairs=ps at *;unfold pgV pgC;rw [hps];generalize a.A1=A1 at *;have H6:=hid hn6;have HT:=hid hT;obtain ⟨n,hn⟩:∃ n,ps.length=n:=⟨_,rfl⟩;generalize hH:num2 (ps.length:Int)=H at *;have hHl:H.length=2:=by rw [<- hH];exact g1a _
 rw [hn] at c1 cL hn6 HB1 ⊢;have HN:=hid hn;clear hps hT hn hH;go_enter Tryz.func261,Tryz.ntmps261
 go_wp2_with fail
 refine cL.mono ?_;rintro e w1 ⟨A2,n2,c2,rfl,h2,b2,f2⟩;have d1:=cell_below c1 b2;have B2:=HB1.out.trans (b2.mono HB1.out.size);have HO:=hid (j4e w1 w.heap.size #[.slice A2 n2 c2] 1 [(A2,c2,H)] rfl (by rw [g2d h2];rfl) ((g1z.nil _).cons h2) B2.size (by omega));have HB2:=hid (B2.alloc B2.size (.cells #[.slice A2 n2 c2] 181));have d2:=cell_below d1 ((Below.refl _ _).alloc (Nat.le_refl _) (.cells #[.slice A2 n2 c2] 181))
 clear h2 b2 f2 B2 d1 cL c1;go_wp2_with fail
 clear d2;go_loopw [3,14] (fun v i wr=>p2b w H ps v i wr) (fun _ i _=>n-(intOf i).toNat)
 case atStart=>exact ⟨0,[(A2,c2,H)],rfl,Nat.zero_le _,HO.out,rfl,by simp [g0t],HB2.out⟩
 case round =>
  obtain ⟨k,xs,rfl,hk,ho,hxl,hall,hb⟩:=hrel
  by_cases hlt:k<n
  ·have hkl:k<ps.length:=by have:=HN.out;omega
   obtain ⟨b,off,rfl,hlb,hc⟩:=HR.out (by intro e;subst e;simp at hkl);obtain ⟨hc1,hc2⟩:=hc k hkl;rw [<- hb.cell (p:=⟨b,off+k*2,none⟩) hlb] at hc1;rw [<- hb.cell (p:=⟨b,off+k*2+1,none⟩) hlb] at hc2;obtain ⟨X,hX⟩:∃ X,strB ps[k].1=X:=⟨_,rfl⟩;obtain ⟨Y,hY⟩:∃ Y,strB ps[k].2=Y:=⟨_,rfl⟩;rw [show strV ps[k].1=.string X by rw [<- hX]] at hc1;rw [show strV ps[k].2=.string Y by rw [<- hY]] at hc2;have hsk:=HS.out _ (List.getElem_mem hkl)
   have HT1:=hid (fun W=>g9u ps[k].1 W (by omega));have HT2:=hid (fun W=>g9u ps[k].2 W (by omega));rw [show strV ps[k].1=.string X by rw [<- hX],show be 1 ps[k].1.length++ps[k].1=txt ps[k].1 from rfl] at HT1;rw [show strV ps[k].2=.string Y by rw [<- hY],show be 1 ps[k].2.length++ps[k].2=txt ps[k].2 from rfl] at HT2;have HAL:Hid (∀ z1 z2:Part,z1.2.2=txt ps[k].1->z2.2.2=txt ps[k].2->g0t (xs++[z1,z2])=H++(ps.take (k+1)).flatMap (fun x=>txt x.1++txt x.2)):=hid (fun z1 z2 h1 h2=>by
    rw [g3m,hall,h5j _ _ hkl];simp [g0t,h1,h2])
   generalize txt ps[k].1=tx at HT1 HAL;generalize txt ps[k].2=ty at HT2 HAL;have hbl:=hb.size;have KS:=hid (j6g (w1:=wr.alloc (.cells #[.string X,.string Y] 49)) (b1:=wr.heap.size) (o1:=0) (b2:=wr.heap.size) (o2:=1) (u:=.string X) (v:=.string Y) (by simp) (by simp));have BW:=hid ((Below.refl _ wr).alloc (Nat.le_refl _) (.cells #[.string X,.string Y] 49));have SW:=hid (show wr.heap.size<(wr.alloc (.cells #[.string X,.string Y] 49)).heap.size by simp)
   have NE:=hid (show some wr.heap.size≠u3.ownBlock from k4b ho (a:=⟨wr.heap.size,0,none⟩) (Nat.le_refl _));have HO:=hid ho;have HBB:=hid hb;have HXL:=hid hxl;clear hc hX hY hb ho hsk hxl hall;go_wp2_with fail
   have R0:=hid (Below.refl (wr.alloc (.cells #[.string X,.string Y] 49)).heap.size (wr.alloc (.cells #[.string X,.string Y] 49)));have K0:=hid (KS.out _ R0.out.drew);go_region_held3 (fun w'=>w'.cell? ⟨wr.heap.size,0,none⟩=some (.string X)/\w'.cell? ⟨wr.heap.size,1,none⟩=some (.string Y))
    (with_reducible (first | exact K0.out | exact K2.out | exact K3.out | exact K4.out | exact K5.out))
    (first
      | (go_at_call 274;(with_reducible refine (HT1.out _).mono ?_);rintro e w2 ⟨A3,n3,c3,rfl,h3,b3,f3⟩;have R2:=hid (R0.out.drew.trans (b3.mono R0.out.drew.size));have H3:=hid h3;have F3:=hid f3;have K2:=hid (KS.out _ R2.out);clear h3 b3 f3)
      | (go_at_call 274;(with_reducible refine (HT2.out _).mono ?_);rintro e w3 ⟨A4,n4,c4,rfl,h4,b4,f4⟩;have R3:=hid (R2.out.trans (b4.mono R2.out.size));have H4:=hid h4;have F4:=hid f4;have H3':=hid (H3.out.below b4);have K3:=hid (KS.out _ R3.out);have K4:=hid (KS.out _ (R3.out.alloc R3.out.size (.cells #[.slice A3 n3 c3,.slice A4 n4 c4] 181)));clear h4 b4 f4;
          obtain ⟨v5,w5,hrun5,ho5,hb5,hB5,hk5⟩:=h7a HO.out HBB.out (Nat.le_refl _) HBB.out.size BW.out R2.out R3.out H3'.out H4.out F3.out F4.out (by have:=HXL.out;have:=H6.out;have:=HN.out;omega);
          have Q5:=hid hrun5;have O5:=hid ho5;have B5:=hid hb5;have K5:=hid (And.intro ((hk5 wr.heap.size 0 (Nat.lt_of_lt_of_le SW.out R3.out.size) NE.out).trans K3.out.1) ((hk5 wr.heap.size 1 (Nat.lt_of_lt_of_le SW.out R3.out.size) NE.out).trans K3.out.2));clear hrun5 ho5 hb5 hB5 hk5)
      | (refine g0i (by rfl) (.tmp 18) (.tmp 25) _ _ (by rfl) (by rfl) (by rfl) Q5.out ?_;skip))
   clear K0 K2 K3 K4 K5 HT1 HT2 KS;go_wp2_with fail
   go_roundw
   case rel=>exact ⟨k+1,xs++[(A3,c3,tx),(A4,c4,ty)],by go_num,hkl,O5.out,by rw [List.length_append,HXL.out];simp;omega,HAL.out _ _ rfl rfl,B5.out⟩
   case measure=>simp [intOf];omega
  ·have hfin:g0t xs=H++ps.flatMap (fun x=>txt x.1++txt x.2):=by rw [hall,List.take_of_length_le (by have:=HN.out;omega)]
   obtain ⟨A,c,hv,_,_,_,hrow⟩:=OwnG.row ho.1;subst hv;have cJ:=g1h A xs.length c xs wr rfl (by have:=H6.out;omega) hrow ho.parts (by rw [hfin];have:=HT.out;omega);rw [hfin] at cJ;have HJ:=hid cJ;have HBB:=hid hb;generalize xs.length=m at *;clear hfin hrow ho hall hxl cJ hb;go_wp2_with fail
   refine HJ.out.mono ?_;rintro e w3 ⟨A3,n3,c3,rfl,h3,b3,f3⟩;have B3:=hid (HBB.out.trans (b3.mono HBB.out.size));have H3:=hid h3;have F3:=hid (fun a ha=>Nat.le_trans HBB.out.size (f3 a ha));clear b3 h3 f3;go_wp2_with fail
   go_ret
   exact ⟨_,_,_,rfl,H3.out,B3.out,F3.out⟩
def p0q (w:World) (H:Bs) (ps:List Int) (v i:Value) (wr:World):Prop:=∃ (k:Nat) (xs:List Part),i=.int .i64 k/\k<=ps.length/\OwnS wr (w.heap.size+1) v xs/\xs.length=1+k/\g0t xs=H++(ps.take k).flatMap num2/\Below w.heap.size w wr/\w.heap.size+1<=wr.heap.size/\∃ z,wr.cell? ⟨w.heap.size,5,none⟩=some z
theorem j4t (p:Pg) (a:Lay) (w:World) (hR:IRow w a.A4 p.pages) (hn6:p.pages.length<=200) (hs:∀ x∈p.pages,0<=x/\x<=9223372036854775807) (hx0:0<=p.next) (hx1:p.next<=9223372036854775807):Calls Tryz.prog 263 #[pgV p a] w (Lays (g5t p) w):=by
 have B1:Below w.heap.size w (w.alloc (.cells (pgC p a) 103)):=(Below.refl _ _).alloc (Nat.le_refl _) _;have HB1:=hid B1;have HR:=hid hR;have cL:=g4m p.pages.length (w.alloc (.cells (pgC p a) 103)) (by omega) (by omega);have cX:=hid (fun W=>g4m p.next W hx0 hx1);change Hid (∀ W,Calls _ _ _ _ (Lays (num2 p.next) _)) at cX;have HS:=hid hs;have c1:(w.alloc (.cells (pgC p a) 103)).cell? ⟨w.heap.size,4,none⟩=some (.slice a.A4 p.pages.length a.c4):=by simp [pgC]
 have c5:(w.alloc (.cells (pgC p a) 103)).cell? ⟨w.heap.size,5,none⟩=some (.int .i64 p.next):=by simp [pgC]
 have HSZ:=hid (show w.heap.size+1<=(w.alloc (.cells (pgC p a) 103)).heap.size by simp);clear hR B1 hs hx0 hx1;change Calls _ _ _ _ (Lays (num2 (p.pages.length:Int)) _) at cL;unfold pgC at HB1 cL c1 c5 HSZ;unfold g5t;generalize hps:p.pages=ps at *;unfold pgV pgC;rw [hps];generalize a.A4=A1 at *;generalize p.next=nx at *;have H6:=hid hn6;obtain ⟨n,hn⟩:∃ n,ps.length=n:=⟨_,rfl⟩;generalize hH:num2 (ps.length:Int)=H at *
 have hHl:Hid (H.length=2):=hid (by rw [<- hH];exact g1a _);rw [hn] at c1 c5 cL hn6 HB1 HSZ ⊢;have HN:=hid hn;clear hps hn hH;go_enter Tryz.func263,Tryz.ntmps263
 go_wp2_with fail
 refine cL.mono ?_;rintro e w1 ⟨A2,n2,c2,rfl,h2,b2,f2⟩;have B2:=HB1.out.trans (b2.mono HB1.out.size);have SZ2:=Nat.le_trans HSZ.out b2.size;have d1:=cell_below (cell_below c1 b2) ((Below.refl _ _).alloc (Nat.le_refl _) (.cells #[.slice A2 n2 c2] 181));have d5:=cell_below (cell_below c5 b2) ((Below.refl _ _).alloc (Nat.le_refl _) (.cells #[.slice A2 n2 c2] 181));have HO:=hid (j4e w1 (w.heap.size+1) #[.slice A2 n2 c2] 1 [(A2,c2,H)] rfl (by rw [g2d h2];rfl) ((g1z.nil _).cons h2) SZ2 (by omega))
 have HB2:=hid (B2.alloc B2.size (.cells #[.slice A2 n2 c2] 181));have HSZ2:=hid (show w.heap.size+1<=(w1.alloc (.cells #[.slice A2 n2 c2] 181)).heap.size by simp;omega);have HD5:=hid d5;clear h2 b2 f2 B2 cL c1 c5 SZ2 HSZ d5;go_wp2_with fail
 clear d1;go_loopw [3,14] (fun v i wr=>p0q w H ps v i wr/\wr.cell? ⟨w.heap.size,5,none⟩=some (.int .i64 nx)) (fun _ i _=>n-(intOf i).toNat)
 case atStart=>exact ⟨⟨0,[(A2,c2,H)],rfl,Nat.zero_le _,HO.out,rfl,by simp [g0t],HB2.out,HSZ2.out,_,HD5.out⟩,HD5.out⟩
 case round =>
  obtain ⟨⟨k,xs,rfl,hk,ho,hxl,hall,hb,hsz,-⟩,h5⟩:=hrel
  by_cases hlt:k<n
  ·have hkl:k<ps.length:=by have:=HN.out;omega
   obtain ⟨b,off,rfl,hlb,hc⟩:=HR.out (by intro e;subst e;simp at hkl);have hc1:=hc k hkl;rw [<- hb.cell (p:=⟨b,off+k,none⟩) hlb] at hc1;have hsk:=HS.out _ (List.getElem_mem hkl);have HT1:=hid (fun W=>g4m ps[k] W hsk.1 hsk.2);change Hid (∀ W,Calls _ _ _ _ (Lays (num2 ps[k]) _)) at HT1;have HAL:Hid (∀ z1:Part,z1.2.2=num2 ps[k]->g0t (xs++[z1])=H++(ps.take (k+1)).flatMap num2):=hid (fun z1 h1=>by
    rw [g3m,hall,h5j _ _ hkl];simp [g0t,h1])
   generalize num2 ps[k]=tx at HT1 HAL;generalize ps[k]=x at hc1 HT1;have hbl:=hb.size;have HO3:=hid ho;have HBB:=hid hb;have HXL:=hid hxl;have HSZ3:=hid hsz;have H5:=hid h5;have NE:=hid (show some w.heap.size≠u3.ownBlock from fun e=>by have:=(World.ownsRow.lt ho.1 w.heap.size e.symm).1;omega);clear hc hb ho hsk hxl hall hsz h5;go_wp2_with fail
   refine (HT1.out _).mono ?_;rintro e w2 ⟨A3,n3,c3,rfl,h3,b3,f3⟩;obtain ⟨v5,w5,hrun5,ho5,hb5,hB5,hk5⟩:=h7l HO3.out HBB.out (Nat.le_succ _) HSZ3.out b3 h3 f3 (by have:=HXL.out;have:=H6.out;have:=HN.out;omega);have Q5:=hid hrun5;have O5:=hid ho5;have B5:=hid hb5;have S5:=hid hB5;have C5:=hid ((hk5 w.heap.size 5 (by have:=b3.size;have:=HSZ3.out;omega) NE.out).trans (cell_below H5.out b3));clear h3 b3 f3 hrun5 ho5 hb5 hB5 hk5 HT1 hc1
   go_wp2_with (at_builtin;(refine g0e rfl (.tmp 18) (.tmp 21) _ rfl rfl rfl Q5.out ?_;clear Q5))
   go_roundw
   case rel=>exact ⟨⟨k+1,xs++[(A3,c3,tx)],by go_num,hkl,O5.out,by rw [List.length_append,HXL.out];simp;omega,HAL.out _ rfl,B5.out,S5.out,_,C5.out⟩,C5.out⟩
   case measure=>simp [intOf];omega
  ·have hfin:g0t xs=H++ps.flatMap num2:=by rw [hall,List.take_of_length_le (by have:=HN.out;omega)]
   have HO3:=hid ho;have HBB:=hid hb;have HXL:=hid hxl;have HSZ3:=hid hsz;have HF:=hid hfin;have HLN:Hid (∀ l:List Int,(l.flatMap num2).length=2*l.length):=hid (fun l=>by
    induction l with
    | nil=>rfl
    | cons x l ih=>rw [List.flatMap_cons,List.length_append,ih,g1a,List.length_cons];omega)
   clear ho hb hxl hsz hfin hall;go_wp2_with fail
   refine (cX.out _).mono ?_;rintro e w2 ⟨A3,n3,c3,rfl,h3,b3,f3⟩;obtain ⟨v5,w5,hrun5,ho5,hb5,hB5,hk5⟩:=h7l HO3.out HBB.out (Nat.le_succ _) HSZ3.out b3 h3 f3 (by have:=HXL.out;have:=H6.out;have:=HN.out;omega);have Q5:=hid hrun5;have B5:=hid hb5;obtain ⟨A,c,hv,_,_,_,hrow⟩:=OwnG.row ho5.1;subst hv;have hall2:g0t (xs++[(A3,c3,num2 nx)])=H++ps.flatMap num2++num2 nx:=by rw [g3m,HF.out];simp [g0t]
   have cJ:=g1h A (xs++[(A3,c3,num2 nx)]).length c (xs++[(A3,c3,num2 nx)]) w5 rfl (by rw [List.length_append];have:=HXL.out;have:=H6.out;simp;omega) hrow ho5.parts (by
    rw [hall2,List.length_append,List.length_append,HLN.out,g1a];have:=hHl.out;have:=H6.out;omega)
   rw [hall2] at cJ;have HJ:=hid cJ;generalize (xs++[(A3,c3,num2 nx)]).length=m at *;clear h3 b3 f3 hrun5 ho5 hb5 hB5 hk5 hrow cJ hall2;go_wp2_with (at_builtin;(refine g0e rfl (.tmp 24) (.tmp 28) _ rfl rfl rfl Q5.out ?_;clear Q5))
   refine HJ.out.mono ?_;rintro e w3 ⟨A3,n3,c3,rfl,h3,b3,f3⟩;have B3:=hid (B5.out.trans (b3.mono B5.out.size));have H3:=hid h3;have F3:=hid (fun a ha=>Nat.le_trans B5.out.size (f3 a ha));clear b3 h3 f3;go_wp2_with fail
   go_ret
   exact ⟨_,_,_,rfl,H3.out,B3.out,F3.out⟩
def g4q (p:Pg):Bs:=num2 p.root++(num2 p.depth++(be 4 p.count.toNat++(num2 p.high++num2 p.next)))
theorem g1r (x:Int) (w:World) (h:0<=x/\x<=9223372036854775807):Calls Tryz.prog 265 #[.int .i64 x] w (Lays (num2 x) w):=g4m x w h.1 h.2
theorem k6l (x:Int) (w:World) (h:0<=x/\x<=9223372036854775807):Calls Tryz.prog 258 #[.int .i64 4,.int .u64 x] w (Lays (be 4 x.toNat) w):=by
 have:=g6t 4 x.toNat w (by omega) (by omega);rw [Int.toNat_of_nonneg h.1] at this;exact this
def g5r (x:Int):Prop:=0<=x/\x<=9223372036854775807
theorem p4c {w:World} {b:Nat} {v5 v7 v8 v9 v10:Value} (h5:w.cell? ⟨b,5,none⟩=some v5) (h7:w.cell? ⟨b,7,none⟩=some v7) (h8:w.cell? ⟨b,8,none⟩=some v8) (h9:w.cell? ⟨b,9,none⟩=some v9) (h10:w.cell? ⟨b,10,none⟩=some v10) :
 ∀ W,Below w.heap.size w W->W.cell? ⟨b,7,none⟩=some v7/\W.cell? ⟨b,8,none⟩=some v8/\W.cell? ⟨b,9,none⟩=some v9/\W.cell? ⟨b,10,none⟩=some v10/\W.cell? ⟨b,5,none⟩=some v5 :=
 fun _ hb=>⟨cell_below h7 hb,cell_below h8 hb,cell_below h9 hb,cell_below h10 hb,cell_below h5 hb⟩
theorem j1y (p:Pg) (a:Lay) (w:World) (h1:g5r p.root) (h2:g5r p.depth) (h3:g5r p.count) (h4:g5r p.high) (h5:g5r p.next):Calls Tryz.prog 264 #[pgV p a] w (Lays (g4q p) w):=by
 have HB1:=hid ((Below.refl w.heap.size w).alloc (Nat.le_refl _) (.cells (pgC p a) 103));have HSZ:=hid (show w.heap.size<=(w.alloc (.cells (pgC p a) 103)).heap.size by simp);have KS:=hid (p4c (w:=w.alloc (.cells (pgC p a) 103)) (b:=w.heap.size) (v5:=.int .i64 p.next) (v7:=.int .i64 p.root) (v8:=.int .i64 p.depth) (v9:=.int .i64 p.count) (v10:=.int .i64 p.high) (by simp [pgC]) (by simp [pgC]) (by simp [pgC]) (by simp [pgC]) (by simp [pgC]))
 have R0:=hid ((Below.refl (w.alloc (.cells (pgC p a) 103)).heap.size (w.alloc (.cells (pgC p a) 103))).drew);have G1:=hid (fun W=>g1r p.root W h1);have G2:=hid (fun W=>g1r p.depth W h2);have G3:=hid (fun W=>k6l p.count W h3);have G4:=hid (fun W=>g1r p.high W h4);have G5:=hid (fun W=>g1r p.next W h5);have hw:IntKind.u64.wrap p.count=p.count:=by rw [IntKind.wrap_u64];have:=h3.1;have:=h3.2;omega
 unfold g4q;have L1:=hid (g1a p.root);have L2:=hid (g1a p.depth);have L3:=hid (g3g 4 p.count.toNat);have L4:=hid (g1a p.high);have L5:=hid (g1a p.next);have K0:=hid (KS.out _ R0.out);clear h1 h2 h3 h4 h5;unfold pgV;unfold pgC at *;generalize num2 p.root=t1 at *;generalize num2 p.depth=t2 at *;generalize be 4 p.count.toNat=t3 at *;generalize num2 p.high=t4 at *;generalize num2 p.next=t5 at *
 generalize p.root=x1 at *;generalize p.depth=x2 at *;generalize p.count=x3 at *;generalize p.high=x4 at *;generalize p.next=x5 at *;go_enter Tryz.func264,Tryz.ntmps264
 go_wp2_with fail
 go_region_held3 (fun w'=>w'.cell? ⟨w.heap.size,7,none⟩=some (.int .i64 x1)/\w'.cell? ⟨w.heap.size,8,none⟩=some (.int .i64 x2)/\w'.cell? ⟨w.heap.size,9,none⟩=some (.int .i64 x3)/\w'.cell? ⟨w.heap.size,10,none⟩=some (.int .i64 x4)/\w'.cell? ⟨w.heap.size,5,none⟩=some (.int .i64 x5))
  (with_reducible (first | exact K0.out | exact K1.out | exact K2.out | exact K3.out | exact K4.out | exact K5.out | exact K6.out | exact K7.out))
  (first
    | (go_at_call 265;(with_reducible refine (G1.out _).mono ?_);rintro e w1 ⟨A1,n1,c1,rfl,h1,b1,f1⟩;have R1:=hid (R0.out.trans (b1.mono R0.out.size));have K1:=hid (KS.out _ R1.out);have H1:=hid h1; clear h1 b1 f1)
    | (go_at_call 265;(with_reducible refine (G2.out _).mono ?_);rintro e w2 ⟨A2,n2,c2,rfl,h2,b2,f2⟩;have R2:=hid (R1.out.trans (b2.mono R1.out.size));have K2:=hid (KS.out _ R2.out);have H2:=hid h2;have H1:=hid (H1.out.below b2);clear h2 b2 f2)
    | (go_at_call 258;(with_reducible refine (G3.out _).mono ?_);rintro e w3 ⟨A3,n3,c3,rfl,h3,b3,f3⟩;have R3:=hid (R2.out.trans (b3.mono R2.out.size));have K3:=hid (KS.out _ R3.out);have H3:=hid h3;have H1:=hid (H1.out.below b3);have H2:=hid (H2.out.below b3);clear h3 b3 f3)
    | (go_at_call 265;(with_reducible refine (G4.out _).mono ?_);rintro e w4 ⟨A4,n4,c4,rfl,h4,b4,f4⟩;have R4:=hid (R3.out.trans (b4.mono R3.out.size));have K4:=hid (KS.out _ R4.out);have H4:=hid h4;have H1:=hid (H1.out.below b4);have H2:=hid (H2.out.below b4);have H3:=hid (H3.out.below b4);clear h4 b4 f4)
    | (go_at_call 265;(with_reducible refine (G5.out _).mono ?_);rintro e w5 ⟨A5,n5,c5,rfl,h5,b5,f5⟩;have R5:=hid (R4.out.trans (b5.mono R4.out.size));have K5:=hid (KS.out _ R5.out);have H5:=hid h5;have H1:=hid (H1.out.below b5);have H2:=hid (H2.out.below b5);have H3:=hid (H3.out.below b5);have H4:=hid (H4.out.below b5);have R6:=hid (R5.out.alloc R5.out.size (.cells #[.slice A1 n1 c1,.slice A2 n2 c2,.slice A3 n3 c3,.slice A4 n4 c4,.slice A5 n5 c5] 181));have K6:=hid (KS.out _ R6.out);
        have CJ:=hid (g1h (some ⟨w5.heap.size,0,none⟩) 5 5 [(A1,c1,t1),(A2,c2,t2),(A3,c3,t3),(A4,c4,t4),(A5,c5,t5)] (w5.alloc (.cells #[.slice A1 n1 c1,.slice A2 n2 c2,.slice A3 n3 c3,.slice A4 n4 c4,.slice A5 n5 c5] 181)) rfl (by omega) (lits _ _ _ _ _ (by rw [g2d H1.out,g2d H2.out,g2d H3.out,g2d H4.out,g2d H5.out];rfl)) ((g1z.nil _).cons (H5.out.alloc _) |>.cons (H4.out.alloc _) |>.cons (H3.out.alloc _) |>.cons (H2.out.alloc _) |>.cons (H1.out.alloc _)) (by simp [g0t,L1.out,L2.out,L3.out,L4.out,L5.out]));clear h5 b5 f5)
    | (go_at_call 260;(with_reducible refine CJ.out.mono ?_);rintro e w7 ⟨A7,n7,c7,rfl,h7,b7,f7⟩;have R7:=hid (R6.out.trans (b7.mono R6.out.size));have K7:=hid (KS.out _ R7.out);have H7:=hid h7;have F7:=hid (fun a ha=>Nat.le_trans HSZ.out (Nat.le_trans R6.out.size (f7 a ha)));clear h7 b7 f7))
 clear K0 K1 K2 K3 K4 K5 K6 K7;go_wp2_with fail
 go_ret
 refine ⟨_,_,_,rfl,?_,HB1.out.trans (R7.out.mono HSZ.out),F7.out⟩;have h:=H7.out
 simpa [g0t] using h
def g3s (p:Pg):Bs:=num2 p.keys.length++num2 (p.kids.headD 0)++(p.keys.zip p.kids.tail).flatMap fun x=>txt x.1++num2 x.2
def k0v (w:World) (H:Bs) (ks:List Bs) (kd:List Int) (kv v i:Value) (wr:World):Prop:=∃ (k:Nat) (xs:List Part),i=.int .i64 k/\k<=ks.length/\OwnS wr (w.heap.size+1) v xs/\xs.length=2+2*k/\g0t xs=H++((ks.zip kd).take k).flatMap (fun x=>txt x.1++num2 x.2)/\Below w.heap.size w wr/\w.heap.size+1<=wr.heap.size/\wr.cell? ⟨w.heap.size,3,none⟩=some kv
theorem h1a {α:Type} (f:α->Bs) (m:Nat):∀ (l:List α),(∀ x∈l,(f x).length<=m)->(l.flatMap f).length<=m*l.length
 | [],_=>by simp
 | x :: l,h=>by
  have h1:=h x (List.mem_cons_self ..);have h2:=h1a f m l (fun y hy=>h y (List.mem_cons_of_mem _ hy));rw [List.flatMap_cons,List.length_append,List.length_cons,Nat.mul_succ];omega
theorem p3t {w:World} {b:Nat} {u v x:Value} {b3 o3 o1 o2:Nat} (h1:w.cell? ⟨b,o1,none⟩=some u) (h2:w.cell? ⟨b,o2,none⟩=some v) (h3:w.cell? ⟨b3,o3,none⟩=some x) :
 ∀ W,Below w.heap.size w W->W.cell? ⟨b,o1,none⟩=some u/\W.cell? ⟨b,o2,none⟩=some v/\W.cell? ⟨b3,o3,none⟩=some x:=fun _ hb=>⟨cell_below h1 hb,cell_below h2 hb,cell_below h3 hb⟩
theorem h9h (p:Pg) (a:Lay) (w:World) (hR:SRow w a.A2 p.keys) (hK:IRow w a.A3 p.kids) (hn6:p.keys.length<=12) (hkl:p.kids.length=p.keys.length+1) (hs:∀ x∈p.keys,x.length<=100) (hx:∀ x∈p.kids,g5r x):Calls Tryz.prog 262 #[pgV p a] w (Lays (g3s p) w):=by
 have HB1:=hid ((Below.refl w.heap.size w).alloc (Nat.le_refl _) (.cells (pgC p a) 103));have HSZ:=hid (show w.heap.size+1<=(w.alloc (.cells (pgC p a) 103)).heap.size by simp);have HR:=hid hR;have HK:=hid hK;have HX:=hid hx;have HS:=hid hs;have HKL:=hid hkl;have c2:(w.alloc (.cells (pgC p a) 103)).cell? ⟨w.heap.size,2,none⟩=some (.slice a.A2 p.keys.length a.c2):=by simp [pgC]
 have c3:(w.alloc (.cells (pgC p a) 103)).cell? ⟨w.heap.size,3,none⟩=some (.slice a.A3 p.kids.length a.c3):=by simp [pgC]
 have G1:=hid (fun W=>g1r p.keys.length W ⟨by omega,by omega⟩);have R0:=hid ((Below.refl (w.alloc (.cells (pgC p a) 103)).heap.size (w.alloc (.cells (pgC p a) 103))).drew);unfold g3s;clear hR hK hs hkl;unfold pgV;unfold pgC at *;generalize hks:p.keys=ks at *;generalize hkd:p.kids=kd at *;generalize a.A2=Ak at *;generalize a.A3=Ad at *;rcases kd with _ | ⟨x0,kd⟩
 ·have:=HKL.out;simp at this
 rw [List.headD_cons,List.tail_cons];have hx0:=hx x0 (List.mem_cons_self ..);obtain ⟨bd,od,rfl,hld,hcd⟩:=HK.out (by simp);have e0:=hcd 0 (by simp);rw [List.getElem_cons_zero,Nat.add_zero,<- HB1.out.cell (p:=⟨bd,od,none⟩) hld] at e0;have KS:=hid (p3t c2 c3 e0);have HLD:=hid hld;have HCD:=hid hcd;have G2:=hid (fun W=>g1r x0 W hx0);have K0:=hid (KS.out _ R0.out);have L1:=hid (g1a (ks.length:Int))
 have L2:=hid (g1a x0);obtain ⟨n,hn⟩:∃ n,ks.length=n:=⟨_,rfl⟩;obtain ⟨m,hm⟩:∃ m,(x0 :: kd).length=m:=⟨_,rfl⟩;have hmn:Hid (m=n+1):=hid (by have:=HKL.out;omega);generalize num2 (ks.length:Int)=t1 at *;generalize num2 x0=t2 at *;have hm0:0<m:=by have:=hmn.out;omega
 have hm1:(0:Int)<(m:Int):=by omega
 have hm2:(0:Int)<=(0:Int):=Int.le_refl _;rw [hn] at HB1 HSZ R0 KS K0 G1 hn6 ⊢;rw [hm] at HB1 HSZ R0 KS K0 ⊢;have HN:=hid hn;have HM:=hid hm;clear hx c2 c3 e0 hcd hx0 hn hm hld;go_enter Tryz.func262,Tryz.ntmps262
 go_wp2_with fail
 go_region_held3 (fun w'=>w'.cell? ⟨w.heap.size,2,none⟩=some (.slice Ak n a.c2)/\w'.cell? ⟨w.heap.size,3,none⟩=some (.slice (some ⟨bd,od,none⟩) m a.c3)/\w'.cell? ⟨bd,od,none⟩=some (.int .i64 x0))
  (with_reducible (first | exact K0.out | exact K1.out | exact K2.out | exact K3.out))
  (first
    | (go_at_call 265;(with_reducible refine (G1.out _).mono ?_);rintro e w1 ⟨A1,n1,c1,rfl,h1,b1,f1⟩;have R1:=hid (R0.out.trans (b1.mono R0.out.size));have K1:=hid (KS.out _ R1.out);have H1:=hid h1;clear h1 b1 f1)
    | (go_at_call 265;(with_reducible refine (G2.out _).mono ?_);rintro e w2 ⟨A2,n2,c2,rfl,h2,b2,f2⟩;have R2:=hid (R1.out.trans (b2.mono R1.out.size));have K2:=hid (KS.out _ R2.out);have H2:=hid h2;have H1:=hid (H1.out.below b2);have R3:=hid (R2.out.alloc R2.out.size (.cells #[.slice A1 n1 c1,.slice A2 n2 c2] 181));have K3:=hid (KS.out _ R3.out);clear h2 b2 f2))
 have d2:=K3.out.1;have HC3:=hid K3.out.2.1;have HSZ3:=hid (Nat.le_trans HSZ.out R3.out.size);have HB3:=hid (HB1.out.trans (R3.out.mono HB1.out.size));have HO:=hid (j4e w2 (w.heap.size+1) #[.slice A1 n1 c1,.slice A2 n2 c2] 2 [(A1,c1,t1),(A2,c2,t2)] rfl (by rw [g2d H1.out,g2d H2.out];rfl) ((g1z.nil _).cons H2.out |>.cons H1.out) (Nat.le_trans HSZ.out R2.out.size) (by omega));clear K0 K1 K2 K3 hm0 hm1 hm2
 go_wp2_with fail
 clear d2;go_loopw [3,19] (fun v i wr=>k0v w (t1++t2) ks kd (.slice (some ⟨bd,od,none⟩) m a.c3) v i wr) (fun _ i _=>n-(intOf i).toNat)
 case atStart=>exact ⟨0,[(A1,c1,t1),(A2,c2,t2)],rfl,Nat.zero_le _,HO.out,rfl,by simp [g0t],HB3.out,HSZ3.out,HC3.out⟩
 case round =>
  obtain ⟨k,xs,rfl,hk,ho,hxl,hall,hb,hsz,h3⟩:=hrel
  by_cases hlt:k<n
  ·have hkl:k<ks.length:=by have:=HN.out;omega
   have hkd2:k<kd.length:=by have h9:=HM.out;rw [List.length_cons] at h9;have:=hmn.out;omega
   obtain ⟨b,off,rfl,hlb,hc⟩:=HR.out (by intro e;subst e;simp at hkl);have hc1:=hc k hkl;rw [<- hb.cell (p:=⟨b,off+k,none⟩) hlb] at hc1;have hd0:=HCD.out (k+1) (by simp;omega);rw [List.getElem_cons_succ] at hd0;have hd1:=(hb.cell (p:=⟨bd,od+(k+1),none⟩) HLD.out).trans hd0;have hxk:=HX.out kd[k] (List.mem_cons_of_mem _ (List.getElem_mem hkd2));obtain ⟨X,hX⟩:∃ X,strB ks[k]=X:=⟨_,rfl⟩;rw [show strV ks[k]=.string X by rw [<- hX]] at hc1
   have hsk:=HS.out _ (List.getElem_mem hkl);have HT1:=hid (fun W=>g9u ks[k] W (by omega));rw [show strV ks[k]=.string X by rw [<- hX],show be 1 ks[k].length++ks[k]=txt ks[k] from rfl] at HT1;have HT2:=hid (fun W=>g1r kd[k] W hxk);have HAL:Hid (∀ z1 z2:Part,z1.2.2=txt ks[k]->z2.2.2=num2 kd[k]->g0t (xs++[z1,z2])=t1++t2++((ks.zip kd).take (k+1)).flatMap (fun x=>txt x.1++num2 x.2)):=hid (fun z1 z2 h1 h2=>by
    rw [g3m,hall,h5j _ _ (by rw [List.length_zip];omega),List.getElem_zip];simp [g0t,h1,h2])
   generalize txt ks[k]=tx at HT1 HAL;generalize num2 kd[k]=ty at HT2 HAL;generalize kd[k]=y at hd0 hd1 HT2;have hbl:=hb.size;have KS2:=hid (j6g h3 hd1);have R0:=hid (Below.refl wr.heap.size wr).drew;have K0:=hid (KS2.out _ R0.out);have NE:=hid (show some w.heap.size≠u3.ownBlock from fun e=>by have:=(World.ownsRow.lt ho.1 w.heap.size e.symm).1;omega);have HO3:=hid ho;have HBB:=hid hb;have HXL:=hid hxl
   have HSZ4:=hid hsz;have HD0:=hid hd0;have i1:IntKind.i64.wrap ((k:Int)+1)=(k:Int)+1:=by rw [IntKind.wrap_i64];omega
   have i2:(0:Int)<=(k:Int)+1:=by omega
   have i3:(k:Int)+1<(m:Int):=by have:=hmn.out;omega
   have i4:((k:Int)+1).toNat=k+1:=by omega
   have HI:=hid hlt;clear hc hX hb ho hsk hxl hall hsz h3 hd0 hd1 hxk;go_wp2_with fail
   go_region_held3 (fun w'=>w'.cell? ⟨w.heap.size,3,none⟩=some (.slice (some ⟨bd,od,none⟩) m a.c3)/\w'.cell? ⟨bd,od+(k+1),none⟩=some (.int .i64 y))
    (with_reducible (first | exact K0.out | exact K2.out | exact K3.out | exact K4.out | exact K5.out))
    (first
      | (go_at_call 274;(with_reducible refine (HT1.out _).mono ?_);rintro e w2 ⟨A3,n3,c3,rfl,h3,b3,f3⟩;have R2:=hid (R0.out.trans (b3.mono R0.out.size));have H3:=hid h3;have F3:=hid f3;have K2:=hid (KS2.out _ R2.out);clear h3 b3 f3)
      | (go_at_call 265;(with_reducible refine (HT2.out _).mono ?_);rintro e w3 ⟨A4,n4,c4,rfl,h4,b4,f4⟩;have R3:=hid (R2.out.trans (b4.mono R2.out.size));have H4:=hid h4;have F4:=hid f4;have H3':=hid (H3.out.below b4);have K3:=hid (KS2.out _ R3.out);have K4:=hid (KS2.out _ (R3.out.alloc R3.out.size (.cells #[.slice A3 n3 c3,.slice A4 n4 c4] 181)));clear h4 b4 f4;
          obtain ⟨v5,w5,hrun5,ho5,hb5,hB5,hk5⟩:=h7a HO3.out HBB.out (Nat.le_succ _) HSZ4.out (Below.refl _ _) R2.out R3.out H3'.out H4.out F3.out F4.out (by have:=HXL.out;have:=HI.out;omega);
          have Q5:=hid hrun5;have O5:=hid ho5;have B5:=hid hb5;have S5:=hid hB5;have K5:=hid (And.intro ((hk5 w.heap.size 3 (Nat.lt_of_lt_of_le (Nat.lt_of_succ_le HSZ4.out) R3.out.size) NE.out).trans K3.out.1) ((hb5.cell (p:=⟨bd,od+(k+1),none⟩) HLD.out).trans HD0.out));clear hrun5 ho5 hb5 hB5 hk5)
      | (refine g0i (by rfl) (.tmp 24) (.tmp 34) _ _ (by rfl) (by rfl) (by rfl) Q5.out ?_;skip))
   have KF:=hid K5.out.1;clear K0 K2 K3 K4 K5 HT1 HT2 KS2 i1 i2 i3 i4;go_wp2_with fail
   go_roundw
   case rel=>exact ⟨k+1,xs++[(A3,c3,tx),(A4,c4,ty)],by go_num,hkl,O5.out,by rw [List.length_append,HXL.out];simp;omega,HAL.out _ _ rfl rfl,B5.out,S5.out,KF.out⟩
   case measure=>have:=HI.out;simp [intOf];omega
  ·have hfin:g0t xs=t1++t2++(ks.zip kd).flatMap (fun x=>txt x.1++num2 x.2):=by rw [hall,List.take_of_length_le (by rw [List.length_zip];have:=HN.out;omega)]
   obtain ⟨A,c,hv,_,_,_,hrow⟩:=OwnG.row ho.1;subst hv;have hle:(g0t xs).length<=1000000:=by
    have h1:=h1a (fun x:Bs×Int=>txt x.1++num2 x.2) 200 (ks.zip kd) (fun x hx=>by
     have:=HS.out x.1 (List.of_mem_zip hx).1;rw [List.length_append,h9w,g1a];omega)
    rw [hfin,List.length_append,List.length_append,L1.out,L2.out];rw [List.length_zip] at h1;have:=HN.out;have:min ks.length kd.length<=12:=by omega
    omega
   have cJ:=g1h A xs.length c xs wr rfl (by have:=HN.out;omega) hrow ho.parts (by omega);rw [hfin] at cJ;have HJ:=hid cJ;have HBB:=hid hb;generalize xs.length=mm at *;clear hfin hrow ho hall hxl cJ hb hle h3 hsz;go_wp2_with fail
   refine HJ.out.mono ?_;rintro e w3 ⟨A3,n3,c3,rfl,h3,b3,f3⟩;have B3:=hid (HBB.out.trans (b3.mono HBB.out.size));have H3:=hid h3;have F3:=hid (fun a ha=>Nat.le_trans HBB.out.size (f3 a ha));clear b3 h3 f3;go_wp2_with fail
   go_ret
   exact ⟨_,_,_,rfl,H3.out,B3.out,F3.out⟩
end Go.Proofs.YtglejnkoojpelaaGreat.Page

import Derived.Test.YtpdakmhnnkaafaaGreatR03
import Derived.Test.YtpdakmhnnkaafaaGreatR01
import Derived.Maps.OwnSet
import Derived.Maps.OwnOps
namespace Go.Proofs.YtpdakmhnnkaafaaGreat
set_option maxRecDepth 100000
set_option maxHeartbeats 40000000
set_option linter.unusedVariables false
set_option linter.unusedSimpArgs false
open Go.RowKit
attribute [local go_sem ↓] Go.wp_at_zero Go.wp_at_succ
theorem bQ(s:aD):(Tryz.prog.info? 40).map (·.size)=some (ae s).size:=by rw [cj];rfl
theorem ew(s:aD):(ae s).all (·.oneCell')=true:=by simp [ae,Value.oneCell']
theorem jP(s:aD):(#[.int .i64 0, .int .i64 0, .int .i64 0, .int .i64 0, .int .i64 0]:Array Value).size=(ae s).size:=rfl
theorem setRow3(w:World)(A B:Obj)(cs ds:Array Value)(t:TypeId)(fr:Nat×Nat):(((w.alloc A).alloc B).alloc (.cells cs t fr)).setRow (w.heap.size+1+1) ds=((w.alloc A).alloc B).alloc (.cells ds t fr):=by
 have h:=aP ((w.alloc A).alloc B) cs ds t fr
 rw [World.size_alloc,World.size_alloc]at h
 exact h
def yT(n o:aD)(M:Int):aD:={o with ge:=o.ge+1,ma:=M,hd:=n.hd}
theorem fin3{w w3:World}{n o:aD}(r1:w3.heap[w.heap.size]? =some (.cells (ae n) 40 (0,0)))(r3:w3.heap[w.heap.size+1+1]? =some (.cells (ae o) 40 (0,0)))(b3:Below w.heap.size w w3)(M:Int):
   (((w3.setCell ⟨w.heap.size+1+1,1,none⟩ (.int .i64 (o.ge+1))).setCell ⟨w.heap.size+1+1,2,none⟩ (.int .i64 M)).setCell ⟨w.heap.size+1+1,3,none⟩ (.int .i64 n.hd)).heap[w.heap.size]? =some (.cells (ae n) 40 (0,0))
   /\(((w3.setCell ⟨w.heap.size+1+1,1,none⟩ (.int .i64 (o.ge+1))).setCell ⟨w.heap.size+1+1,2,none⟩ (.int .i64 M)).setCell ⟨w.heap.size+1+1,3,none⟩ (.int .i64 n.hd)).heap[w.heap.size+1+1]? =some (.cells (ae (yT n o M)) 40 (0,0))
   /\Below w.heap.size w (((w3.setCell ⟨w.heap.size+1+1,1,none⟩ (.int .i64 (o.ge+1))).setCell ⟨w.heap.size+1+1,2,none⟩ (.int .i64 M)).setCell ⟨w.heap.size+1+1,3,none⟩ (.int .i64 n.hd)):=by
 have S1:=heap_setCell_same w3 _ 1 _ _ (.int .i64 (o.ge+1)) r3
 have S2:=heap_setCell_same _ _ 2 _ _ (.int .i64 M) S1
 have S3:=heap_setCell_same _ _ 3 _ _ (.int .i64 n.hd) S2
 refine⟨jx (jx (jx r1 ⟨w.heap.size+1+1,1,none⟩ _ (by simp;omega)) ⟨w.heap.size+1+1,2,none⟩ _ (by simp;omega)) ⟨w.heap.size+1+1,3,none⟩ _ (by simp;omega),S3,((b3.setCell (by simp;omega) _).setCell (by simp;omega) _).setCell (by simp;omega) _⟩
theorem Nn(n o:aD)(h:o.ma<n.ma):iQ n o=decide (n=yT n o n.ma):=by
 unfold iQ yT;rw [show max o.ma n.ma=n.ma by omega]
theorem Np(n o:aD)(h: ¬o.ma<n.ma):iQ n o=decide (n=yT n o o.ma):=by
 unfold iQ yT;rw [show max o.ma n.ma=o.ma by omega]
theorem ur(w:World)(n o:aD)(hb: -9223372036854775808<=o.ge/\o.ge<9223372036854775807):
   Calls Tryz.prog 103 #[.agg (ae n), .agg (ae o)] w fun ed w'=>ed= .returned (.bool (iQ n o))/\Below w.heap.size w w':=by
 obtain⟨h1,h2⟩:=hb
 have h3:o.ge+1<=9223372036854775807:=by omega
 have KQ:=fun(M:Int)=>Rt n (yT n o M)
 have KG:=OM
 have r1:=rW w (.cells (ae n) 40) (.cells (ae o) 40) (.cells (ae o) 40)
 have r2:=rV w (.cells (ae n) 40) (.cells (ae o) 40) (.cells (ae o) 40)
 have r3:=ou w (.cells (ae n) 40) (.cells (ae o) 40) (.cells (ae o) 40)
 have b3:=below3 w (.cells (ae n) 40) (.cells (ae o) 40) (.cells (ae o) 40)
 have z3:=ou w (.cells (ae n) 40) (.cells (ae o) 40) (.cells #[.int .i64 0, .int .i64 0, .int .i64 0, .int .i64 0, .int .i64 0] 40)
 have lZ:=aa (setRow3 w (.cells (ae n) 40) (.cells (ae o) 40) #[.int .i64 0, .int .i64 0, .int .i64 0, .int .i64 0, .int .i64 0] (ae o) 40 (0,0))
 have q3:=aF (w.alloc (.cells (ae n) 40)) (.cells (ae o) 40)
 rw [World.size_alloc]at q3
 by_cases hm:o.ma<n.ma
 · have HF:=aa (Nn n o hm)
   go_enter Tryz.func103,Tryz.ntmps103
   go_wp2_with (first
     | (refine aG rfl 40 (.tmp 3) rfl (w.heap.size+1) rfl 40 (ae o) (0,0) _ q3 Tryz.underlying40 rfl (bQ o) ?_)
     | (refine aG (by rfl) 40 (.tmp 2) (by rfl) w.heap.size (by rfl) 40 (ae n) (0,0) _ (by exact(fin3 r1 r3 b3 _).1) Tryz.underlying40 rfl (bQ n) ?_)
     | (refine aG (by rfl) 40 (.tmp 5) (by rfl) (w.heap.size+1+1) (by rfl) 40 (ae (yT n o n.ma)) (0,0) _ (by exact(fin3 r1 r3 b3 n.ma).2.1) Tryz.underlying40 rfl (bQ _) ?_;have B9:=(fin3 r1 r3 b3 n.ma).2.2)
     | (refine wpList_store_row rfl 40 _ _ rfl _ (ae o) rfl rfl 40 _ z3 (bQ o) (jP o) (ew o) ?_;rw [lZ.out];clear lZ z3 q3;generalize ((w.alloc (.cells (ae n) 40)).alloc (.cells (ae o) 40)).alloc (.cells (ae o) 40)=w3 at*;have c1:w3.cell? ⟨w.heap.size+1+1,1,none⟩=some (.int .i64 o.ge):=cell_of_row w3 _ 1 _ _ _ r3;have c2:w3.cell? ⟨w.heap.size+1+1,2,none⟩=some (.int .i64 o.ma):=cell_of_row w3 _ 2 _ _ _ r3;have c3:w3.cell? ⟨w.heap.size+1+1,3,none⟩=some (.int .i64 o.hd):=cell_of_row w3 _ 3 _ _ _ r3;have c4:w3.cell? ⟨w.heap.size+1,2,none⟩=some (.int .i64 o.ma):=cell_of_row w3 _ 2 _ _ _ r2;have c5:w3.cell? ⟨w.heap.size,2,none⟩=some (.int .i64 n.ma):=cell_of_row w3 _ 2 _ _ _ r1;have c6:w3.cell? ⟨w.heap.size,3,none⟩=some (.int .i64 n.hd):=cell_of_row w3 _ 3 _ _ _ r1;have f1:w3.frozen? ⟨w.heap.size+1+1,1,none⟩=false:=frozen_of_row _ _ _ _ _ r3;have f2:w3.frozen? ⟨w.heap.size+1+1,2,none⟩=false:=frozen_of_row _ _ _ _ _ r3;have f3:w3.frozen? ⟨w.heap.size+1+1,3,none⟩=false:=frozen_of_row _ _ _ _ _ r3))
   go_ret
   exact⟨by rw [HF.out];rfl,B9⟩
 · have HF:=aa (Np n o hm)
   go_enter Tryz.func103,Tryz.ntmps103
   go_wp2_with (first
     | (refine aG rfl 40 (.tmp 3) rfl (w.heap.size+1) rfl 40 (ae o) (0,0) _ q3 Tryz.underlying40 rfl (bQ o) ?_)
     | (refine aG (by rfl) 40 (.tmp 2) (by rfl) w.heap.size (by rfl) 40 (ae n) (0,0) _ (by exact(fin3 r1 r3 b3 _).1) Tryz.underlying40 rfl (bQ n) ?_)
     | (refine aG (by rfl) 40 (.tmp 5) (by rfl) (w.heap.size+1+1) (by rfl) 40 (ae (yT n o o.ma)) (0,0) _ (by exact(fin3 r1 r3 b3 o.ma).2.1) Tryz.underlying40 rfl (bQ _) ?_;have B9:=(fin3 r1 r3 b3 o.ma).2.2)
     | (refine wpList_store_row rfl 40 _ _ rfl _ (ae o) rfl rfl 40 _ z3 (bQ o) (jP o) (ew o) ?_;rw [lZ.out];clear lZ z3 q3;generalize ((w.alloc (.cells (ae n) 40)).alloc (.cells (ae o) 40)).alloc (.cells (ae o) 40)=w3 at*;have c1:w3.cell? ⟨w.heap.size+1+1,1,none⟩=some (.int .i64 o.ge):=cell_of_row w3 _ 1 _ _ _ r3;have c2:w3.cell? ⟨w.heap.size+1+1,2,none⟩=some (.int .i64 o.ma):=cell_of_row w3 _ 2 _ _ _ r3;have c3:w3.cell? ⟨w.heap.size+1+1,3,none⟩=some (.int .i64 o.hd):=cell_of_row w3 _ 3 _ _ _ r3;have c4:w3.cell? ⟨w.heap.size+1,2,none⟩=some (.int .i64 o.ma):=cell_of_row w3 _ 2 _ _ _ r2;have c5:w3.cell? ⟨w.heap.size,2,none⟩=some (.int .i64 n.ma):=cell_of_row w3 _ 2 _ _ _ r1;have c6:w3.cell? ⟨w.heap.size,3,none⟩=some (.int .i64 n.hd):=cell_of_row w3 _ 3 _ _ _ r1;have f1:w3.frozen? ⟨w.heap.size+1+1,1,none⟩=false:=frozen_of_row _ _ _ _ _ r3;have f2:w3.frozen? ⟨w.heap.size+1+1,2,none⟩=false:=frozen_of_row _ _ _ _ _ r3;have f3:w3.frozen? ⟨w.heap.size+1+1,3,none⟩=false:=frozen_of_row _ _ _ _ _ r3))
   go_ret
   exact⟨by rw [HF.out];rfl,B9⟩
theorem Dg(a:Act)(o:Oper)(ho:o.op= .build 148 #[])(w:World):(execOp a.eval o).run Tryz.prog w= .ok (.value (.agg (ints .u8 (zz 64)).toArray)) w:=by
 unfold execOp
 rw [ho]
 kernel_rfl
theorem xT{w:World}{ops:Array Oper}{rest:List Oper}{o:Oper}{a:Act}{Q:Exit->Act->World->Prop}(hw:Region.wanted o (yielded ops a.tmps)=true)(ho:o.op= .build 148 #[])
   (h:wpList Tryz.prog ops Q rest (a.put o.dst (.agg (ints .u8 (zz 64)).toArray)) w):wpList Tryz.prog ops Q (o::rest) a w:=by
 refine BigFrame.wpList_want hw fun K hK=>?_
 unfold Oper.wp
 rw [Dg a o ho w]
 exact hK _ _ h
theorem uu(w:World)(r:List Int)(sp:Option Addr)(cap:Nat)(hS:Src w sp cap r):
   Calls Tryz.prog 86 #[.slice sp r.length cap] w fun e w'=>e= .returned (.bool (dJ r))/\Below w.heap.size w w':=by
 have yS:(r.length:Int)<=9223372036854775807:=by have:=hS.1;have:=hS.2.1;unfold maxLen at this;omega
 by_cases hl:r.length=256
 · have Me:=ox w r 256 cap sp (by omega) hl.symm hS
   have HF:=aa (show dJ r=decide (r.take 64=zz 64) by unfold dJ zz;simp [hl])
   have hl64:(r.take 64).length=64:=by rw [List.length_take];omega
   have KQ:=aa (fun w=>OJ (r.take 64) (zz 64) hl64 (gT 64) w)
   have KG:=AB
   rw [hl]
   clear hS hl yS
   generalize r.take 64=sec at*
   go_enter Tryz.func86,Tryz.ntmps86
   go_wp2_with fail
   refine Me.mono ?_
   rintro e w2 ⟨rfl,b2⟩
   have XK:=KQ.out
   go_wp2_with (first
     | (refine xT (by rfl) (by rfl) ?_))
   go_ret
   exact⟨by rw [HF.out];rfl,b2⟩
 · have HF:=aa (show dJ r=false by unfold dJ;simp [hl])
   have hl2:((r.length:Int)==256)=false:=by simp;omega
   clear hS hl
   go_enter Tryz.func86,Tryz.ntmps86
   go_wp2
   go_ret
   exact⟨by rw [HF.out];rfl,Below.refl _ _⟩
structure NW (w w':World) (a b:aD):Prop where
 r1:w'.heap[w.heap.size]? =some (.cells (ae a) 40 (0,0))
 r2:w'.heap[w.heap.size+1]? =some (.cells (ae b) 40 (0,0))
 r3:w'.heap[w.heap.size+1+1]? =some (.cells (ae sup0) 40 (0,0))
 bl:Below w.heap.size w w'
theorem NW.start(w:World)(a b:aD):NW w (((w.alloc (.cells (ae a) 40)).alloc (.cells (ae b) 40)).alloc (.cells (ae sup0) 40)) a b:=
 ⟨rW _ _ _ _,rV _ _ _ _,ou _ _ _ _,below3 _ _ _ _⟩
theorem NW.below{w w' w2:World}{a b:aD}(h:NW w w' a b)(hb:Below w'.heap.size w' w2):NW w w2 a b:=
 ⟨ee hb h.r1 (hlt h.r1),ee hb h.r2 (hlt h.r2),ee hb h.r3 (hlt h.r3),h.bl.trans (hb.mono h.bl.size)⟩
theorem NW.done{w w':World}{a b:aD}(h:NW w w' a b)(s:aD):(w'.setRow (w.heap.size+1+1) (ae s)).heap[w.heap.size+1+1]? =some (.cells (ae s) 40 (0,0))/\Below w.heap.size w (w'.setRow (w.heap.size+1+1) (ae s)):=
 ⟨setRow_heap w' _ _ _ _ _ h.r3,below_setRow h.bl (by omega) _⟩
theorem jB(s t:aD):(ae s).size=(ae t).size:=rfl
theorem GP(w:World)(a b:aD)(ha:0<=a.ge/\a.ge<=1099511627776)(hb:0<=b.ge/\b.ge<=1099511627776):
   Calls Tryz.prog 85 #[.agg (ae a), .agg (ae b)] w fun e w'=>e= .returned (.tuple #[.agg (ae (gy a b).1), .int .i64 (gy a b).2])/\Below w.heap.size w w':=by
 have HN:=aa (show gy a b=if a.ge.tmod 2≠0 then(sup0,4)else if iQ a b=true then(a,0)else if iQ b a=true then(b,0)else(sup0,4)from rfl)
 have h1:=fun w'=>ur w' a b (by omega)
 have h2:=fun w'=>ur w' b a (by omega)
 have H1:=aa h1
 have H2:=aa h2
 clear h1 h2
 have N0:=NW.start w a b
 have a1:=ha.1
 have a2:=ha.2
 obtain⟨T,hT⟩: ∃T,a.ge.tmod 2=T:=⟨_,rfl⟩
 have tb:0<=T/\T<2:=by rw [<-hT];exact⟨Int.tmod_nonneg 2 a1,Int.tmod_lt_of_pos _ (by omega)⟩
 rw [hT]at HN
 have KW:IntKind.i64.wrap T=T:=ig T (by omega) (by omega)
 have W3:((w.alloc (.cells (ae a) 40)).alloc (.cells (ae b) 40)).alloc (.cells #[.int .i64 0, .int .i64 0, .int .i64 0, .int .i64 0, .int .i64 0] 40)=((w.alloc (.cells (ae a) 40)).alloc (.cells (ae b) 40)).alloc (.cells (ae sup0) 40):=rfl
 generalize ((w.alloc (.cells (ae a) 40)).alloc (.cells (ae b) 40)).alloc (.cells (ae sup0) 40)=w3 at*
 have c1:w3.cell? ⟨w.heap.size,1,none⟩=some (.int .i64 a.ge):=cell_of_row w3 _ 1 _ _ _ N0.r1
 by_cases hT0:T=0
 · subst hT0
   clear tb KW
   go_enter Tryz.func85,Tryz.ntmps85
   go_wp2_with (first
     | (refine aG (by rfl) 40 (.tmp 2) (by rfl) w.heap.size (by rfl) 40 (ae a) (0,0) _ (by exact N0.r1) Tryz.underlying40 rfl (bQ a) ?_)
     | (refine aG (by rfl) 40 (.tmp 3) (by rfl) (w.heap.size+1) (by rfl) 40 (ae b) (0,0) _ (by exact N0.r2) Tryz.underlying40 rfl (bQ b) ?_))
   refine(H1.out w3).mono ?_
   rintro e w4 ⟨rfl,b4⟩
   have N1:=N0.below b4
   clear N0 b4 c1 W3
   cases hf1:iQ a b
   · have HF1:=aa hf1
     clear hf1
     go_wp2_with (first
       | (refine aG (by rfl) 40 (.tmp 2) (by rfl) w.heap.size (by rfl) 40 (ae a) (0,0) _ (by exact N1.r1) Tryz.underlying40 rfl (bQ a) ?_)
       | (refine aG (by rfl) 40 (.tmp 3) (by rfl) (w.heap.size+1) (by rfl) 40 (ae b) (0,0) _ (by exact N1.r2) Tryz.underlying40 rfl (bQ b) ?_))
     refine(H2.out w4).mono ?_
     rintro e w5 ⟨rfl,b5⟩
     have N2:=N1.below b5
     clear N1 b5
     cases hf2:iQ b a
     · have HF:=aa (show gy a b=(sup0,4) by rw [HN.out,if_neg (by simp),if_neg (by simp [HF1.out]),if_neg (by simp [hf2])])
       clear hf2 HN
       obtain⟨R9,B9⟩:=N2.done sup0
       go_wp2_with (first
         | (refine wpList_store_row (by rfl) 40 (.tmp 4) (.tmp 21) (by rfl) (w.heap.size+1+1) (ae sup0) (by rfl) (by rfl) 40 (ae sup0) (by exact N2.r3) (bQ _) (jB _ _) (ew _) ?_))
       exact bodyPost_ret (v:= .tuple #[.agg (ae sup0), .int .i64 4]) (bX Tryz.results85 _ _ (w.heap.size+1+1) 40 _ _ _ rfl R9 Tryz.underlying40 rfl (bQ _)) rfl ⟨by rw [HF.out],B9⟩
     · have HF:=aa (show gy a b=(b,0) by rw [HN.out,if_neg (by simp),if_neg (by simp [HF1.out]),if_pos hf2])
       clear hf2 HN
       obtain⟨R9,B9⟩:=N2.done b
       go_wp2_with (first
         | (refine aG (by rfl) 40 (.tmp 3) (by rfl) (w.heap.size+1) (by rfl) 40 (ae b) (0,0) _ (by exact N2.r2) Tryz.underlying40 rfl (bQ b) ?_)
         | (refine wpList_store_row (by rfl) 40 (.tmp 4) (.tmp 20) (by rfl) (w.heap.size+1+1) (ae b) (by rfl) (by rfl) 40 (ae sup0) (by exact N2.r3) (bQ _) (jB _ _) (ew _) ?_))
       exact bodyPost_ret (v:= .tuple #[.agg (ae b), .int .i64 0]) (bX Tryz.results85 _ _ (w.heap.size+1+1) 40 _ _ _ rfl R9 Tryz.underlying40 rfl (bQ _)) rfl ⟨by rw [HF.out],B9⟩
   · have HF:=aa (show gy a b=(a,0) by rw [HN.out,if_neg (by simp),if_pos hf1])
     clear hf1 HN
     obtain⟨R9,B9⟩:=N1.done a
     go_wp2_with (first
       | (refine aG (by rfl) 40 (.tmp 2) (by rfl) w.heap.size (by rfl) 40 (ae a) (0,0) _ (by exact N1.r1) Tryz.underlying40 rfl (bQ a) ?_)
       | (refine wpList_store_row (by rfl) 40 (.tmp 4) (.tmp 15) (by rfl) (w.heap.size+1+1) (ae a) (by rfl) (by rfl) 40 (ae sup0) (by exact N1.r3) (bQ _) (jB _ _) (ew _) ?_))
     exact bodyPost_ret (v:= .tuple #[.agg (ae a), .int .i64 0]) (bX Tryz.results85 _ _ (w.heap.size+1+1) 40 _ _ _ rfl R9 Tryz.underlying40 rfl (bQ _)) rfl ⟨by rw [HF.out],B9⟩
 · have HF:=aa (show gy a b=(sup0,4) by rw [HN.out,if_pos hT0])
   have hT2:(T !=0)=true:=by simpa using hT0
   clear hT0 HN
   obtain⟨R9,B9⟩:=N0.done sup0
   go_enter Tryz.func85,Tryz.ntmps85
   go_wp2_with (first
     | (refine wpList_store_row (by rfl) 40 (.tmp 4) (.tmp 10) (by rfl) (w.heap.size+1+1) (ae sup0) (by rfl) (by rfl) 40 (ae sup0) (by exact N0.r3) (bQ _) (jB _ _) (ew _) ?_))
   exact bodyPost_ret (v:= .tuple #[.agg (ae sup0), .int .i64 4]) (bX Tryz.results85 _ _ (w.heap.size+1+1) 40 _ _ _ rfl R9 Tryz.underlying40 rfl (bQ _)) rfl ⟨by rw [HF.out],B9⟩
structure CW (w w':World) (x y:aD) (G6 G8:Nat):Prop where
 r:w'.heap[w.heap.size]? =some (.cells (ae sup0) 40 (0,0))
 r6:w'.heap[G6]? =some (.cells (ae x) 40 (0,0))
 r8:w'.heap[G8]? =some (.cells (ae y) 40 (0,0))
 bl:Below w.heap.size w w'
theorem CW.below{w w' w2:World}{x y:aD}{G6 G8:Nat}(h:CW w w' x y G6 G8)(hb:Below w'.heap.size w' w2):CW w w2 x y G6 G8:=
 ⟨ee hb h.r (hlt h.r),ee hb h.r6 (hlt h.r6),ee hb h.r8 (hlt h.r8),h.bl.trans (hb.mono h.bl.size)⟩
theorem CW.done{w w':World}{x y:aD}{G6 G8:Nat}(h:CW w w' x y G6 G8)(s:aD):(w'.setRow w.heap.size (ae s)).heap[w.heap.size]? =some (.cells (ae s) 40 (0,0))/\Below w.heap.size w (w'.setRow w.heap.size (ae s)):=
 ⟨setRow_heap w' _ _ _ _ _ h.r,below_setRow h.bl (Nat.le_refl _) _⟩
theorem Ff(w:World)(xs ys:List Int)(x8:aS xs)(y8:aS ys)(sp sq:Option Addr)(cp cq:Nat)(hX:Src w sp cp xs)(hY:Src w sq cq ys):
   Calls Tryz.prog 61 #[.slice sp xs.length cp, .slice sq ys.length cq] w fun e w'=>e= .returned (.tuple #[.agg (ae (aM xs ys).1), .int .i64 (aM xs ys).2])/\Below w.heap.size w w':=by
 have HC:=aa (show aM xs ys=if(bq xs).2=0/\(bq ys).2=0 then gy (bq xs).1 (bq ys).1
   else if((bq xs).2=0/\(bq xs).1.ge=0)\/dJ xs=true then(if dJ ys=true then(sup0,55)else(sup0,4))else(sup0,4)from rfl)
 have hu1:=fun(w':World) (h:Src w' sp cp xs)=>uq w' xs x8 sp cp h
 have hu2:=fun(w':World) (h:Src w' sq cq ys)=>uq w' ys y8 sq cq h
 have VX:=aa (fun h=>((dg _).1 (qA xs h).2.1))
 have VY:=aa (fun h=>((dg _).1 (qA ys h).2.1))
 generalize bq xs=U at*
 generalize bq ys=V at*
 obtain⟨x,ex⟩:=U
 obtain⟨y,ey⟩:=V
 simp only at hu1 hu2 HC VX VY
 have r0:=aF w (.cells (ae sup0) 40)
 have b0:=aq w (.cells (ae sup0) 40)
 have hX0:=hX.below b0 (Nat.le_refl _)
 have hY0:=hY.below b0 (Nat.le_refl _)
 go_enter Tryz.func61,Tryz.ntmps61
 go_wp2_with fail
 refine(hu1 _ hX0).mono ?_
 rintro e w1 ⟨rfl,b1⟩
 have r1:=ee b1 r0 (hlt r0)
 have B1:=b0.trans (b1.mono b0.size)
 have hY1:=hY0.below b1 (Nat.le_refl _)
 have hX1:=hX0.below b1 (Nat.le_refl _)
 have z1:=aF w1 (.cells (ae x) 40)
 have d1:=aq w1 (.cells (ae x) 40)
 have r2:=ee d1 r1 (hlt r1)
 have B2:=B1.trans (d1.mono B1.size)
 have hY2:=hY1.below d1 (Nat.le_refl _)
 have hX2:=hX1.below d1 (Nat.le_refl _)
 clear r0 b0 b1 r1 B1 hY1 d1 hu1 hX0 hY0 hX1
 go_wp2_with (first
   | (refine wpList_store_row (by rfl) 40 (.tmp 6) (.tmp 13) (by rfl) w1.heap.size (ae x) (by rfl) (by rfl) 40 _ (by exact aF _ _) (bQ x) (jP x) (ew x) ?_;rw [aP];generalize w1.alloc (.cells (ae x) 40)=w2 at*;generalize w1.heap.size=G6 at*))
 refine(hu2 _ hY2).mono ?_
 rintro e w3 ⟨rfl,b3⟩
 have r3:=ee b3 r2 (hlt r2)
 have z3:=ee b3 z1 (hlt z1)
 have B3:=B2.trans (b3.mono B2.size)
 have hX3:=hX2.below b3 (Nat.le_refl _)
 have hY3:=hY2.below b3 (Nat.le_refl _)
 have s4:=aF w3 (.cells (ae y) 40)
 have d4:=aq w3 (.cells (ae y) 40)
 have C4:CW w (w3.alloc (.cells (ae y) 40)) x y G6 w3.heap.size:=⟨ee d4 r3 (hlt r3),ee d4 z3 (hlt z3),s4,B3.trans (d4.mono B3.size)⟩
 have hX4:=hX3.below d4 (Nat.le_refl _)
 have hY4:=hY3.below d4 (Nat.le_refl _)
 clear r2 z1 b3 B2 hX2 hY2 r3 z3 B3 hX3 hY3 s4 d4 hu2
 have EX:=aa (fun(w':World) (h:Src w' sp cp xs)=>uu w' xs sp cp h)
 have EY:=aa (fun(w':World) (h:Src w' sq cq ys)=>uu w' ys sq cq h)
 rcases Classical.em (ex=0)with hxe| hxe
 · subst hxe
   obtain⟨v1,v2,v3,v4,_⟩:=VX.out rfl
   rcases Classical.em (ey=0)with hye| hye
   · subst hye
     obtain⟨u1,u2,u3,u4,_⟩:=VY.out rfl
     have HF:=aa (show aM xs ys=gy x y by rw [HC.out,if_pos ⟨rfl,rfl⟩])
     have Si:=fun w'=>GP w' x y ⟨v3,v4⟩ ⟨u3,u4⟩
     have iI:=aa Si
     clear Si HC VX VY EX EY
     go_wp2_with (first
       | (refine wpList_store_row (by rfl) 40 (.tmp 8) (.tmp 18) (by rfl) w3.heap.size (ae y) (by rfl) (by rfl) 40 _ (by exact aF _ _) (bQ y) (jP y) (ew y) ?_;rw [aP];generalize w3.alloc (.cells (ae y) 40)=w4 at*;generalize w3.heap.size=G8 at*)
       | (refine aG (by rfl) 40 (.tmp 6) (by rfl) G6 (by rfl) 40 (ae x) (0,0) _ (by exact C4.r6) Tryz.underlying40 rfl (bQ x) ?_)
       | (refine aG (by rfl) 40 (.tmp 8) (by rfl) G8 (by rfl) 40 (ae y) (0,0) _ (by exact C4.r8) Tryz.underlying40 rfl (bQ y) ?_))
     refine(iI.out w4).mono ?_
     rintro e w5 ⟨rfl,b5⟩
     have C5:=C4.below b5
     obtain⟨R9,B9⟩:=C5.done (gy x y).1
     generalize gy x y=NF at*
     obtain⟨ns,ne⟩:=NF
     simp only at R9 B9
     go_wp2_with (first
       | (refine wpList_store_row (by rfl) 40 (.tmp 4) (.tmp 41) (by rfl) w.heap.size (ae ns) (by rfl) (by rfl) 40 (ae sup0) (by exact C5.r) (bQ _) (jB _ _) (ew _) ?_))
     exact bodyPost_ret (v:= .tuple #[.agg (ae ns), .int .i64 ne]) (bX Tryz.results61 _ _ w.heap.size 40 _ _ _ rfl R9 Tryz.underlying40 rfl (bQ _)) rfl ⟨by rw [HF.out],B9⟩
   · have hye2:(ey==0)=false:=by simpa using hye
     rcases Classical.em (x.ge=0)with hg| hg
     · have HU2:=aa (show aM xs ys=if dJ ys=true then(sup0,55)else(sup0,4) by rw [HC.out,if_neg (fun h=>hye h.2),if_pos (Or.inl ⟨rfl,hg⟩)])
       have HG:=aa hg
       clear HC hye VX VY EX v1 v2 v3 v4 hg
       go_wp2_with (first
         | (refine wpList_store_row (by rfl) 40 (.tmp 8) (.tmp 18) (by rfl) w3.heap.size (ae y) (by rfl) (by rfl) 40 _ (by exact aF _ _) (bQ y) (jP y) (ew y) ?_;rw [aP];generalize w3.alloc (.cells (ae y) 40)=w4 at*;generalize w3.heap.size=G8 at*;have cg:w4.cell? ⟨G6,1,none⟩=some (.int .i64 x.ge):=cell_of_row w4 _ 1 _ _ _ C4.r6;rw [HG.out]at cg))
       clear cg HG
       refine(EY.out w4 hY4).mono ?_
       rintro e v2 ⟨rfl,e2⟩
       have D2:=C4.below e2
       cases oy:dJ ys
       · have HF:=aa (show aM xs ys=(sup0,4) by rw [HU2.out,if_neg (by simp [oy])])
         clear oy HU2
         obtain⟨R9,B9⟩:=D2.done sup0
         go_wp2_with (first
           | (refine wpList_store_row (by rfl) 40 (.tmp 4) (.tmp 46) (by rfl) w.heap.size (ae sup0) (by rfl) (by rfl) 40 (ae sup0) (by exact D2.r) (bQ _) (jB _ _) (ew _) ?_))
         exact bodyPost_ret (v:= .tuple #[.agg (ae sup0), .int .i64 4]) (bX Tryz.results61 _ _ w.heap.size 40 _ _ _ rfl R9 Tryz.underlying40 rfl (bQ _)) rfl ⟨by rw [HF.out],B9⟩
       · have HF:=aa (show aM xs ys=(sup0,55) by rw [HU2.out,if_pos oy])
         clear oy HU2
         obtain⟨R9,B9⟩:=D2.done sup0
         go_wp2_with (first
           | (refine wpList_store_row (by rfl) 40 (.tmp 4) (.tmp 45) (by rfl) w.heap.size (ae sup0) (by rfl) (by rfl) 40 (ae sup0) (by exact D2.r) (bQ _) (jB _ _) (ew _) ?_))
         exact bodyPost_ret (v:= .tuple #[.agg (ae sup0), .int .i64 55]) (bX Tryz.results61 _ _ w.heap.size 40 _ _ _ rfl R9 Tryz.underlying40 rfl (bQ _)) rfl ⟨by rw [HF.out],B9⟩
     · have hg2:(x.ge==0)=false:=by simpa using hg
       have HU:=aa (show aM xs ys=if dJ xs=true then(if dJ ys=true then(sup0,55)else(sup0,4))else(sup0,4) by
         rw [HC.out,if_neg (fun h=>hye h.2)]
         cases dJ xs
         · rw [if_neg (by simp [hg]),if_neg (by simp)]
         · rw [if_pos (Or.inr rfl),if_pos rfl])
       clear HC hye VX VY v1 v2 v3 v4 hg
       go_wp2_with (first
         | (refine wpList_store_row (by rfl) 40 (.tmp 8) (.tmp 18) (by rfl) w3.heap.size (ae y) (by rfl) (by rfl) 40 _ (by exact aF _ _) (bQ y) (jP y) (ew y) ?_;rw [aP];generalize w3.alloc (.cells (ae y) 40)=w4 at*;generalize w3.heap.size=G8 at*;have cg:w4.cell? ⟨G6,1,none⟩=some (.int .i64 x.ge):=cell_of_row w4 _ 1 _ _ _ C4.r6;generalize x.ge=xg at*))
       clear cg hg2
       refine(EX.out w4 hX4).mono ?_
       rintro e v1 ⟨rfl,e1⟩
       have D1:=C4.below e1
       have OP:=hY4.below e1 (Nat.le_refl _)
       cases hex:dJ xs
       · have HF:=aa (show aM xs ys=(sup0,4) by rw [HU.out,if_neg (by simp [hex])])
         clear hex HU
         obtain⟨R9,B9⟩:=D1.done sup0
         go_wp2_with (first
           | (refine wpList_store_row (by rfl) 40 (.tmp 4) (.tmp 46) (by rfl) w.heap.size (ae sup0) (by rfl) (by rfl) 40 (ae sup0) (by exact D1.r) (bQ _) (jB _ _) (ew _) ?_))
         exact bodyPost_ret (v:= .tuple #[.agg (ae sup0), .int .i64 4]) (bX Tryz.results61 _ _ w.heap.size 40 _ _ _ rfl R9 Tryz.underlying40 rfl (bQ _)) rfl ⟨by rw [HF.out],B9⟩
       · have HU2:=aa (show aM xs ys=if dJ ys=true then(sup0,55)else(sup0,4) by rw [HU.out,if_pos hex])
         clear hex HU
         go_wp2_with fail
         refine(EY.out v1 OP).mono ?_
         rintro e v2 ⟨rfl,e2⟩
         have D2:=D1.below e2
         cases oy:dJ ys
         · have HF:=aa (show aM xs ys=(sup0,4) by rw [HU2.out,if_neg (by simp [oy])])
           clear oy HU2
           obtain⟨R9,B9⟩:=D2.done sup0
           go_wp2_with (first
             | (refine wpList_store_row (by rfl) 40 (.tmp 4) (.tmp 46) (by rfl) w.heap.size (ae sup0) (by rfl) (by rfl) 40 (ae sup0) (by exact D2.r) (bQ _) (jB _ _) (ew _) ?_))
           exact bodyPost_ret (v:= .tuple #[.agg (ae sup0), .int .i64 4]) (bX Tryz.results61 _ _ w.heap.size 40 _ _ _ rfl R9 Tryz.underlying40 rfl (bQ _)) rfl ⟨by rw [HF.out],B9⟩
         · have HF:=aa (show aM xs ys=(sup0,55) by rw [HU2.out,if_pos oy])
           clear oy HU2
           obtain⟨R9,B9⟩:=D2.done sup0
           go_wp2_with (first
             | (refine wpList_store_row (by rfl) 40 (.tmp 4) (.tmp 45) (by rfl) w.heap.size (ae sup0) (by rfl) (by rfl) 40 (ae sup0) (by exact D2.r) (bQ _) (jB _ _) (ew _) ?_))
           exact bodyPost_ret (v:= .tuple #[.agg (ae sup0), .int .i64 55]) (bX Tryz.results61 _ _ w.heap.size 40 _ _ _ rfl R9 Tryz.underlying40 rfl (bQ _)) rfl ⟨by rw [HF.out],B9⟩
 · have hxe2:(ex==0)=false:=by simpa using hxe
   have HU:=aa (show aM xs ys=if dJ xs=true then(if dJ ys=true then(sup0,55)else(sup0,4))else(sup0,4) by
     rw [HC.out,if_neg (fun h=>hxe h.1)]
     cases dJ xs
     · rw [if_neg (by simp [hxe]),if_neg (by simp)]
     · rw [if_pos (Or.inr rfl),if_pos rfl])
   clear HC hxe VX VY
   go_wp2_with (first
     | (refine wpList_store_row (by rfl) 40 (.tmp 8) (.tmp 18) (by rfl) w3.heap.size (ae y) (by rfl) (by rfl) 40 _ (by exact aF _ _) (bQ y) (jP y) (ew y) ?_;rw [aP];generalize w3.alloc (.cells (ae y) 40)=w4 at*;generalize w3.heap.size=G8 at*))
   refine(EX.out w4 hX4).mono ?_
   rintro e v1 ⟨rfl,e1⟩
   have D1:=C4.below e1
   have OP:=hY4.below e1 (Nat.le_refl _)
   cases hex:dJ xs
   · have HF:=aa (show aM xs ys=(sup0,4) by rw [HU.out,if_neg (by simp [hex])])
     clear hex HU
     obtain⟨R9,B9⟩:=D1.done sup0
     go_wp2_with (first
       | (refine wpList_store_row (by rfl) 40 (.tmp 4) (.tmp 46) (by rfl) w.heap.size (ae sup0) (by rfl) (by rfl) 40 (ae sup0) (by exact D1.r) (bQ _) (jB _ _) (ew _) ?_))
     exact bodyPost_ret (v:= .tuple #[.agg (ae sup0), .int .i64 4]) (bX Tryz.results61 _ _ w.heap.size 40 _ _ _ rfl R9 Tryz.underlying40 rfl (bQ _)) rfl ⟨by rw [HF.out],B9⟩
   · have HU2:=aa (show aM xs ys=if dJ ys=true then(sup0,55)else(sup0,4) by rw [HU.out,if_pos hex])
     clear hex HU
     go_wp2_with fail
     refine(EY.out v1 OP).mono ?_
     rintro e v2 ⟨rfl,e2⟩
     have D2:=D1.below e2
     cases oy:dJ ys
     · have HF:=aa (show aM xs ys=(sup0,4) by rw [HU2.out,if_neg (by simp [oy])])
       clear oy HU2
       obtain⟨R9,B9⟩:=D2.done sup0
       go_wp2_with (first
         | (refine wpList_store_row (by rfl) 40 (.tmp 4) (.tmp 46) (by rfl) w.heap.size (ae sup0) (by rfl) (by rfl) 40 (ae sup0) (by exact D2.r) (bQ _) (jB _ _) (ew _) ?_))
       exact bodyPost_ret (v:= .tuple #[.agg (ae sup0), .int .i64 4]) (bX Tryz.results61 _ _ w.heap.size 40 _ _ _ rfl R9 Tryz.underlying40 rfl (bQ _)) rfl ⟨by rw [HF.out],B9⟩
     · have HF:=aa (show aM xs ys=(sup0,55) by rw [HU2.out,if_pos oy])
       clear oy HU2
       obtain⟨R9,B9⟩:=D2.done sup0
       go_wp2_with (first
         | (refine wpList_store_row (by rfl) 40 (.tmp 4) (.tmp 45) (by rfl) w.heap.size (ae sup0) (by rfl) (by rfl) 40 (ae sup0) (by exact D2.r) (bQ _) (jB _ _) (ew _) ?_))
       exact bodyPost_ret (v:= .tuple #[.agg (ae sup0), .int .i64 55]) (bX Tryz.results61 _ _ w.heap.size 40 _ _ _ rfl R9 Tryz.underlying40 rfl (bQ _)) rfl ⟨by rw [HF.out],B9⟩
theorem pT(s:aD)(Y:List Int)(h:aJ s=true)(hY:Y.length=192):bq (dv s++Y)=(s,0):=
 CZ s _ h (by rw [List.length_append,eJ,hY]) (by rw [List.take_left' (eJ s)])
def vS(u s:aD):Prop:=u.ge=s.ge+1/\u.wd=s.wd/\u.pg=s.pg/\s.ma<=u.ma
theorem vS.yes{u s:aD}(h:vS u s):iQ u s=true:=by
 obtain⟨h1,h2,h3,h4⟩:=h
 unfold iQ
 obtain⟨a,b,c,d,e⟩:=u
 obtain⟨a',b',c',d',e'⟩:=s
 simp only at h1 h2 h3 h4
 subst h1 h2 h3
 simp [Int.max_eq_right h4]
theorem vS.no{u s:aD}(h:vS u s):iQ s u=false:=by
 have h1:=h.1
 unfold iQ
 rw [decide_eq_false_iff_not]
 intro e
 have:=congrArg aD.ge e
 simp only at this
 omega
theorem Dh(s u:aD)(Y Z:List Int)(hY:Y.length=192)(hZ:Z.length=192)(vs:aJ s=true)(vu:aJ u=true)(hf:vS u s)(he:s.ge.tmod 2=0):aM (dv s++Y) (dv u++Z)=(u,0):=by
 unfold aM
 rw [pT s Y vs hY,pT u Z vu hZ,if_pos ⟨rfl,rfl⟩]
 unfold gy
 rw [if_neg (by simp [he]),if_neg (by simp [hf.no]),if_pos hf.yes]
theorem Fg(s u:aD)(Y Z:List Int)(hY:Y.length=192)(hZ:Z.length=192)(vs:aJ s=true)(vu:aJ u=true)(hf:vS u s)(he:u.ge.tmod 2=0):aM (dv u++Y) (dv s++Z)=(u,0):=by
 unfold aM
 rw [pT u Y vu hY,pT s Z vs hZ,if_pos ⟨rfl,rfl⟩]
 unfold gy
 rw [if_neg (by simp [he]),if_pos hf.yes]
theorem GQ(s:aD):(dv s).getD 0 0=76/\(dv s).getD 8 0=s.ge%256:=by
 unfold dv jL mU
 constructor
 · simp
 · simp [num]
structure OW where
 page:Nat
 data:List Int
structure DS where
 af:List Int
 ops:List OW
 power:Bool
 armed:Int
 ag:Int
 reads:Int
 writes:Int
 aA:Int
def bF(o:OW):List Value:= .int .i64 o.page::ints .u8 o.data
def jC(zs:List Int):Prop:= ∀x∈zs,0<=x/\x<256
theorem jC.get{zs:List Int}(h:jC zs)(j:Nat):0<=zs.getD j 0/\zs.getD j 0<256:=by
 by_cases hj:j<zs.length
 · rw [List.getD_eq_getElem?_getD,List.getElem?_eq_getElem hj];exact h _ (List.getElem_mem hj)
 · rw [List.getD_eq_getElem?_getD,List.getElem?_eq_none (by omega)];simp
def gB(n:Nat)(o:OW):Prop:=o.page<n/\o.data.length=256/\jC o.data
theorem gB.len{n:Nat}{o:OW}(h:gB n o):(bF o).length=257:=by simp [bF,ints,h.2.1]
theorem qD(o:OW): ∀v∈bF o,v.oneCell'=true:=by
 intro v hv
 rcases List.mem_cons.1 hv with rfl| h
 · rfl
 · exact dR _ _ v h
def vT(p:Nat):List OW->Option Nat
 | []=>none
 | o::r=>if o.page=p then some r.length else vT p r
def gC(ops:List OW)(p:Nat):Option Nat:=vT p ops.reverse
theorem Fh(p:Nat):gC [] p=none:=rfl
theorem lO(ops:List OW)(o:OW)(p:Nat):gC (ops++ [o]) p=if o.page=p then some ops.length else gC ops p:=by
 simp [gC,vT]
theorem AE(p:Nat): ∀(r:List OW) (i:Nat),vT p r=some i->i<r.length
 | [],i,h=>by cases h
 | o::r,i,h=>by
   unfold vT at h
   split at h
   · cases h;simp
   · have:=AE p r i h;simp;omega
theorem oz{ops:List OW}{p i:Nat}(h:gC ops p=some i):i<ops.length:=by simpa using AE p ops.reverse i h
structure py (M:DataW Unit) (ops:List OW):Prop where
 isMap:Maps.IsMap M
 no: ∀p,gC ops p=none->Maps.has M (.int .i64 (p:Nat))=false
 yes: ∀p i,gC ops p=some i->Maps.has M (.int .i64 (p:Nat))=true/\M.atKey (.int .i64 (p:Nat)) (.lit (.int .i64 0))= .lit (.int .i64 (i:Nat))
theorem py.nil:py (.map []) []:=⟨Maps.isMap_empty,fun p _=>rfl,fun p i h=>by cases h⟩
theorem Mf(p:Nat)(h:p<4096):(Lit.int .i64 (p:Nat)).wf=true:=WalkArith.wf_i64 (by omega)
theorem py.snoc{M:DataW Unit}{ops:List OW}(h:py M ops)(o:OW)(hp:o.page<4096):py (M.put (.int .i64 (o.page:Nat)) (.lit (.int .i64 (ops.length:Nat)))) (ops++ [o]):=by
 have hk:WideAt.IsKeyLit (.int .i64 (o.page:Nat)):=by first| trivial| exact Mf _ hp| decide
 refine⟨h.isMap.put _ _,fun p hl=>?_,fun p i hl=>?_⟩
 · rw [lO]at hl
   split at hl
   · cases hl
   · rename_i hne
     rw [Maps.has_put_other (by intro e;simp only [Lit.int.injEq,true_and]at e;omega)]
     exact h.no p hl
 · rw [lO]at hl
   split at hl
   · rename_i he
     cases hl
     subst he
     exact⟨Maps.has_put_same h.isMap hk _,Maps.atKey_put_same h.isMap hk _ _⟩
   · rename_i hne
     rw [Maps.has_put_other (by intro e;simp only [Lit.int.injEq,true_and]at e;omega),Maps.atKey_put_other (by intro e;simp only [Lit.int.injEq,true_and]at e;omega)]
     exact h.yes p i hl
structure DP where
 p:Nat
 g:Nat
 m:Nat
 gc:Nat
 ov:Value
 rest:List Value
 M:DataW Unit
def DP.fp(P:DP):List Nat:=P.p::P.g::P.m::P.ov.ownBlock.toList
def kO(P:DP)(D:DS):Array Value:= #[.int .i64 D.reads, .int .i64 D.writes, .int .i64 D.aA, .int .i64 D.ops.length, .slice (some ⟨P.g,0,none⟩) D.af.length P.gc,P.ov, .map (some P.m), .bool D.power, .int .i64 D.armed, .int .i64 D.ag]
structure cC (D:DS):Prop where
 n: ∃n,3<=n/\n<=4096/\D.af.length=256*n/\ ∀o∈D.ops,gB n o
 bts:jC D.af
 ops:D.ops.length<=400000000000
 reads:0<=D.reads/\D.reads<=4000000000000000000
 writes:0<=D.writes/\D.writes<=4000000000000000000
 aA:0<=D.aA/\D.aA<=4000000000000000000
 ag:0<=D.ag/\D.ag<=4000000000000000000
 armed:0<=D.armed/\D.armed<=9223372036854775807
structure DK (w:World) (base:Nat) (P:DP) (D:DS):Prop where
 cell:w.heap[P.p]? =some (.cells (kO P D) 79 (0,0))
 im:w.heap[P.g]? =some (.cells (ints .u8 D.af++P.rest).toArray 5 (0,0))
 gl:D.af.length<=P.gc
 gm:P.gc<=maxLen
 opn:w.ownsRow base 103 257 P.ov D.ops.length (D.ops.flatMap bF)
 mp:w.ownsMap Tryz.prog 3 (plainElem Tryz.prog 3) P.m D.ops.length P.M
 new:py P.M D.ops
 bp:base<=P.p
 bg:base<=P.g
 bm:base<=P.m
structure Fr (F:List Nat) (a b:World):Prop where
 os:b.os=a.os
 tape:b.tape=a.tape
 output:b.output=a.output
 size:a.heap.size<=b.heap.size
 block: ∀k,k<a.heap.size->k∉F->b.heap[k]? =a.heap[k]?
theorem Fr.refl(F:List Nat)(a:World):Fr F a a:=⟨rfl,rfl,rfl,Nat.le_refl _,fun _ _ _=>rfl⟩
def Gr(w:World)(F F':List Nat):Prop:= ∀k∈F',k∈F\/w.heap.size<=k
theorem Gr.refl(w:World)(F:List Nat):Gr w F F:=fun k h=>Or.inl h
theorem Fr.trans{F F':List Nat}{a b c:World}(h:Fr F a b)(k:Fr F' b c)(g:Gr a F F'):Fr F a c:=
 ⟨k.os.trans h.os,k.tape.trans h.tape,k.output.trans h.output,Nat.le_trans h.size k.size,fun i hi hn=>(k.block i (Nat.lt_of_lt_of_le hi h.size) (fun e=>(g i e).elim hn (by omega))).trans (h.block i hi hn)⟩
theorem Gr.trans{F F' Sj:List Nat}{a b:World}(h:Gr a F F')(k:Gr b F' Sj)(hs:a.heap.size<=b.heap.size):Gr a F Sj:=fun i hi=>(k i hi).elim (h i) (fun q=>Or.inr (by omega))
theorem Fr.ba{F:List Nat}{a b:World}(h:Below a.heap.size a b):Fr F a b:=⟨h.os,h.tape,h.output,h.size,fun k hk _=>h.block k hk⟩
theorem Fr.below{F:List Nat}{a b:World}{B:Nat}(h:Fr F a b)(hF: ∀k∈F,B<=k)(hB:B<=a.heap.size):Below B a b:=⟨h.os,h.tape,h.output,h.size,fun k hk=>h.block k (by omega) (fun e=>by have:=hF k e;omega)⟩
theorem Fr.drew{F:List Nat}{a b:World}(h:Fr F a b):Fr F a b.drew:=⟨h.os,h.tape,h.output,h.size,h.block⟩
theorem Fr.setCell{F:List Nat}{a b:World}(h:Fr F a b){p:Nat}(hp:p∈F)(o:Nat)(v:Value):Fr F a (b.setCell ⟨p,o,none⟩ v):=
 ⟨h.os,h.tape,h.output,by rw [World.size_setCell];exact h.size,fun k hk hn=>(heap_setCell_other b ⟨p,o,none⟩ k v (fun e=>hn (e▸hp))).trans (h.block k hk hn)⟩
theorem Fr.tail{F F':List Nat}{a b c:World}(h:Fr F a b)(k:Below b.heap.size b c):Fr F a c:=
 ⟨k.os.trans h.os,k.tape.trans h.tape,k.output.trans h.output,Nat.le_trans h.size k.size,fun i hi hn=>(k.block i (Nat.lt_of_lt_of_le hi h.size)).trans (h.block i hi hn)⟩
theorem cZ{w w1:World}{base t k n:Nat}{v:Value}{cs:List Value}(h:w.ownsRow base t k v n cs)(hk: ∀i,v.ownBlock=some i->w1.heap[i]? =w.heap[i]?):w1.ownsRow base t k v n cs:=by
 refine⟨h.1,?_⟩
 rcases h.2 with h2| ⟨g,cap,cur,rfl,hg,hh,r⟩
 · exact Or.inl h2
 · exact Or.inr ⟨g,cap,cur,rfl,hg,(hk g rfl).trans hh,r⟩
theorem aH{w:World}{base t k n:Nat}{v:Value}{cs:List Value}(h:w.ownsRow base t k v n cs): ∀i,v.ownBlock=some i->base<=i/\ ∃cur,w.heap[i]? =some (.cells cur t (0,0)):=by
 intro i hi
 rcases h.2 with⟨rfl,_⟩| ⟨g,cap,cur,rfl,hg,hh,r⟩
 · simp [Value.ownBlock]at hi
 · simp [Value.ownBlock]at hi;subst hi;exact⟨hg,cur,hh⟩
theorem iB{w w1:World}{b n:Nat}{M:DataW Unit}(h:w.ownsMap Tryz.prog 3 (plainElem Tryz.prog 3) b n M)(hk:w1.heap[b]? =w.heap[b]?):w1.ownsMap Tryz.prog 3 (plainElem Tryz.prog 3) b n M:=by
 obtain⟨es,clock,hb,F,hs,hD⟩:=h
 exact⟨es,clock,hk.trans hb,F,hs,hD⟩
theorem DP.mem(P:DP)(k:Nat):k∈P.fp↔k=P.p\/k=P.g\/k=P.m\/P.ov.ownBlock=some k:=by
 simp [DP.fp,eq_comm]
theorem DK.lt{w:World}{base:Nat}{P:DP}{D:DS}(h:DK w base P D): ∀k∈P.fp,base<=k/\k<w.heap.size:=by
 intro k hk
 rcases(P.mem k).1 hk with rfl| rfl| rfl| e
 · exact⟨h.bp,hlt h.cell⟩
 · exact⟨h.bg,hlt h.im⟩
 · exact⟨h.bm,h.mp.lt⟩
 · obtain⟨a,cur,b⟩:=aH h.opn k e;exact⟨a,hlt b⟩
theorem DK.of_heap{w w1:World}{base:Nat}{P:DP}{D:DS}(h:DK w base P D)(hk: ∀k∈P.fp,w1.heap[k]? =w.heap[k]?):DK w1 base P D:=
 ⟨(hk _ ((P.mem _).2 (Or.inl rfl))).trans h.cell,(hk _ ((P.mem _).2 (Or.inr (Or.inl rfl)))).trans h.im,h.gl,h.gm,cZ h.opn fun i hi=>hk i ((P.mem _).2 (Or.inr (Or.inr (Or.inr hi)))),iB h.mp (hk _ ((P.mem _).2 (Or.inr (Or.inr (Or.inl rfl))))),h.new,h.bp,h.bg,h.bm⟩
theorem DK.below{w w1:World}{base:Nat}{P:DP}{D:DS}(h:DK w base P D)(hb:Below w.heap.size w w1):DK w1 base P D:=h.of_heap fun k hk=>hb.block k (h.lt k hk).2
theorem cL{w:World}{a b:Nat}{x y:Array Value}{t u:TypeId}{f f':Nat×Nat}(ha:w.heap[a]? =some (.cells x t f))(hb:w.heap[b]? =some (.cells y u f'))(h:t≠u):a≠b:=by
 rintro rfl;rw [ha]at hb;simp only [Option.some.injEq,Obj.cells.injEq]at hb;exact h hb.2.1
theorem DK.pg{w:World}{base:Nat}{P:DP}{D:DS}(h:DK w base P D):P.p≠P.g:=cL h.cell h.im (by decide)
theorem DK.pm{w:World}{base:Nat}{P:DP}{D:DS}(h:DK w base P D):P.p≠P.m:=by
 obtain⟨es,clock,hb,_⟩:=h.mp
 intro e;rw [<-e,h.cell]at hb;cases hb
theorem DK.OS{w:World}{base:Nat}{P:DP}{D:DS}(h:DK w base P D):P.g≠P.m:=by
 obtain⟨es,clock,hb,_⟩:=h.mp
 intro e;rw [<-e,h.im]at hb;cases hb
theorem DK.po{w:World}{base:Nat}{P:DP}{D:DS}(h:DK w base P D):P.ov.ownBlock≠some P.p:=fun e=>by
 obtain⟨_,cur,hh⟩:=aH h.opn _ e;exact cL hh h.cell (by decide) rfl
theorem DK.go{w:World}{base:Nat}{P:DP}{D:DS}(h:DK w base P D):P.ov.ownBlock≠some P.g:=fun e=>by
 obtain⟨_,cur,hh⟩:=aH h.opn _ e;exact cL hh h.im (by decide) rfl
theorem DK.mo{w:World}{base:Nat}{P:DP}{D:DS}(h:DK w base P D):P.ov.ownBlock≠some P.m:=fun e=>by
 obtain⟨_,cur,hh⟩:=aH h.opn _ e
 obtain⟨es,clock,hb,_⟩:=h.mp
 rw [hh]at hb;cases hb
def DA(w:World)(base:Nat)(F:List Nat)(p:Nat)(D:DS):Prop:= ∃P:DP,P.p=p/\P.fp=F/\DK w base P D/\cC D
theorem DA.lt{w:World}{base:Nat}{F:List Nat}{p:Nat}{D:DS}(h:DA w base F p D): ∀k∈F,base<=k/\k<w.heap.size:=by
 obtain⟨P,rfl,rfl,h,_⟩:=h;exact h.lt
theorem DA.ok{w:World}{base:Nat}{F:List Nat}{p:Nat}{D:DS}(h:DA w base F p D):cC D:=by
 obtain⟨P,rfl,rfl,h,k⟩:=h;exact k
theorem DA.below{w w1:World}{base:Nat}{F:List Nat}{p:Nat}{D:DS}(h:DA w base F p D)(hb:Below w.heap.size w w1):DA w1 base F p D:=by
 obtain⟨P,e1,e2,h,k⟩:=h;exact⟨P,e1,e2,h.below hb,k⟩
def eQ(F G:List Nat):Prop:= ∀k∈F,k∉G
theorem eQ.symm{F G:List Nat}(h:eQ F G):eQ G F:=fun k hk e=>h k e hk
theorem eQ.step{w:World}{F F' G:List Nat}(h:eQ F G)(hG: ∀k∈G,k<w.heap.size)(hg:Gr w F F'):eQ F' G:=fun k hk e=>(hg k hk).elim (fun q=>h k q e) (fun q=>by have:=hG k e;omega)
def Nx(base:Nat)(F:List Nat)(p:Nat)(w:World)(D':DS)(w':World):Prop:= ∃F',DA w' base F' p D'/\Fr F w w'/\Gr w F F'
end Go.Proofs.YtpdakmhnnkaafaaGreat

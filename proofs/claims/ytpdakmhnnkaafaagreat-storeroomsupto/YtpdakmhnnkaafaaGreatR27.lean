import Derived.Test.YtpdakmhnnkaafaaGreatR26
namespace Go.Proofs.YtpdakmhnnkaafaaGreat
set_option maxRecDepth 100000
set_option maxHeartbeats 40000000
set_option linter.unusedVariables false
set_option linter.unusedSimpArgs false
open Go.RowKit
open Go.Proofs.YtpdakmhnnkaafaaGreat.Ca (Ct ct0 av bV AS)
attribute [local go_sem ↓] Go.wp_at_zero Go.wp_at_succ
theorem DA.lower{w:World}{b b':Nat}{F:List Nat}{p:Nat}{D:DS}(h:DA w b F p D)(hb:b'<=b):DA w b' F p D:=by
 obtain⟨P,h1,h2,h3,h4⟩:=h
 refine⟨P,h1,h2,⟨h3.cell,h3.im,h3.gl,h3.gm,?_,h3.mp,h3.new,Nat.le_trans hb h3.bp,Nat.le_trans hb h3.bg,Nat.le_trans hb h3.bm⟩,h4⟩
 obtain⟨q1,q2⟩:=h3.opn
 refine⟨q1,?_⟩
 rcases q2 with⟨r1,r2⟩| ⟨g,cap,cur,r1,r2,r3⟩
 · exact Or.inl ⟨r1,r2⟩
 · exact Or.inr ⟨g,cap,cur,r1,Nat.le_trans hb r2,r3⟩
def lz(D:DS)(n:Nat)(wd:Int):Prop:=td D n wd/\ ∀q,q<n->bO D.af q=if q=0 then dI (fS n wd 0)else if q=1 then dI (fS n wd 1)else zz 256
theorem JE{a b:List Int}{n:Nat}(ha:a.length=256*n)(hb:b.length=256*n)(h: ∀q,q<n->bO a q=bO b q):a=b:=by
 apply List.ext_getElem?
 intro j
 by_cases hj:j<256*n
 · have e:=congrArg (fun l:List Int=>l[j%256]?) (h (j/256) (by omega))
   simp only [bO,List.getElem?_take,List.getElem?_drop]at e
   rw [if_pos (by omega),if_pos (by omega)]at e
   rwa [show j/256*256+j%256=j by omega]at e
 · rw [List.getElem?_eq_none (by omega),List.getElem?_eq_none (by omega)]
theorem lz.len{D:DS}{n:Nat}{wd:Int}(h:lz D n wd):D.af.length=256*n:=by
 have h1:=h.1.np
 have h2:=h.1.ok.n
 unfold DS.np at h1
 omega
theorem JF{D E:DS}{n:Nat}{wd:Int}(h:lz D n wd)(k:lz E n wd):D=E:=by
 have e:=JE h.len k.len (fun q hq=>(h.2 q hq).trans (k.2 q hq).symm)
 have h1:=h.1;have k1:=k.1
 cases D;cases E
 simp only [DS.mk.injEq]
 exact⟨e,h1.ops.trans k1.ops.symm,h1.pw.trans k1.pw.symm,h1.arm.trans k1.arm.symm,h1.ag.trans k1.ag.symm,h1.reads.trans k1.reads.symm,h1.writes.trans k1.writes.symm,h1.aA.trans k1.aA.symm⟩
theorem lz.db{D:DS}{n:Nat}{wd:Int}(h:lz D n wd)(hn:n<=64):DB D 1000:=by
 have h1:=h.1
 have a1:=h1.reads;have a2:=h1.writes;have a3:=h1.aA;have a4:=h1.ag;have a5:=h1.ops;have a6:=h1.np
 exact⟨by omega,by omega,by omega,by omega,by rw [a5];simp,by omega⟩
theorem zM(w:World)(n:Nat)(wd:Int)(hn:3<=n/\n<=64)(hw:1<=wd/\wd<=32):
   Calls Tryz.prog 11 #[.int .i64 n, .int .i64 wd] w fun e w'=> ∃p F D,e= .returned (.pointer (some ⟨p,0,none⟩))/\DA w' w.heap.size F p D/\lz D n wd/\Below w.heap.size w w':=by
 have iI:=aa (GV w n hn.1 (by omega))
 obtain⟨Z,hZ⟩: ∃Z:List Int,Z=List.replicate (256*n) 0:=⟨_,rfl⟩
 rw [<-hZ]at iI
 have IL:cC (dy Z):=by rw [hZ];exact xV hn.1 (by omega) List.length_replicate (xW _)
 have BO:(dy Z).np=n:=by
   show Z.length/256=n
   rw [hZ,List.length_replicate];omega
 have pz: ∀q,q<n->bO Z q=zz 256:=fun q hq=>by rw [hZ];exact Bb n q hq
 have RN:=aa (show Rest (dy Z) n 0 from⟨IL,BO,rfl,rfl,rfl,rfl,(by decide:(0:Int)<=1000),(by decide:(0:Int)<=1000),(by decide:(0:Int)<=1000)⟩)
 have BN:=aa (show Blank (bO (dy Z).af 0) (bO (dy Z).af 1)from by show Blank (bO Z 0) (bO Z 1);rw [pz 0 (by omega),pz 1 (by omega)];exact Bg)
 have j0:(n:Int)<=64:=by omega
 have HW:=aa hw
 have HN:=aa hn
 obtain⟨B,hBB⟩: ∃B,B=w.heap.size:=⟨_,rfl⟩
 rw [<-hBB]at iI⊢
 have B0:=aa (show B<=w.heap.size by omega)
 have My:=aa BO
 have PZ:=aa (show∀q,q<n->bO (dy Z).af q=zz 256 from pz)
 clear hw hn hZ hBB IL BO pz
 go_enter Tryz.func11,Tryz.ntmps11
 go_wp2_with fail
 refine iI.out.mono ?_
 rintro e w1 ⟨p,F,rfl,hD1,hB1⟩
 have HD1:=aa hD1
 have HB1:=aa hB1
 have zv:=aa (uB w1 B F p (dy Z) hD1 (Nat.le_trans B0.out hB1.size) n 0 RN.out wd HW.out BN.out)
 clear hD1 hB1 iI
 go_wp2_with fail
 refine zv.out.mono ?_
 rintro e w2 ⟨rfl,D2,iN,hnp2,hN2⟩
 obtain⟨F2,hDA2,hB2,_⟩:=Nx.go HD1.out HB1.out B0.out hN2
 have hgd:=iN.good HW.out
 rw [show({dy Z with reads:=(dy Z).reads+2}:DS).np=(dy Z).np from rfl,My.out]at hgd
 have nv: ∀q,q<n->bO D2.af q=if q=0 then dI (fS n wd 0)else if q=1 then dI (fS n wd 1)else zz 256:=fun q hq=>by
   have Rg:=My.out
   by_cases c0:q=0
   · rw [c0,if_pos rfl];have:=iN.p0;rwa [show({dy Z with reads:=(dy Z).reads+2}:DS).np=(dy Z).np from rfl,Rg]at this
   · by_cases c1:q=1
     · rw [c1,if_neg (by omega),if_pos rfl];have:=iN.p1;rwa [show({dy Z with reads:=(dy Z).reads+2}:DS).np=(dy Z).np from rfl,Rg]at this
     · rw [if_neg c0,if_neg c1,iN.rest q (by omega) (by show q<(dy Z).np;rw [Rg];exact hq)];exact PZ.out q hq
 have Qn:Hid (td D2 n wd/\ ∀q,q<n->bO D2.af q=if q=0 then dI (fS n wd 0)else if q=1 then dI (fS n wd 1)else zz 256):=aa ⟨⟨iN.ok,hnp2,iN.ops,iN.pw,iN.arm,iN.ag,iN.reads,iN.writes,iN.aA,hgd.tV iN.ops⟩,nv⟩
 have HDA2:=aa hDA2
 have HB2:=aa hB2
 clear iN hnp2 hN2 hDA2 hB2 hgd zv nv
 go_wp2
 go_ret
 exact⟨p,F2,D2,rfl,HDA2.out,Qn.out,HB2.out⟩
def wr0(dl:Value):Array Value:= #[dl, .slice none 0 0, .pointer none, .slice none 0 0, .slice none 0 0, .int .i64 0, .slice none 0 0]
theorem uf{w w':World}{base g:Nat}{dl v':Value}{vs:List Value}{p:Value}(hr:w.heap[g]? =some (.cells (wr0 dl) 33 (0,0)))(hP:dt w base 50 dl vs)(hg:base<=g)(q1:dt w' base 50 v' (vs++ [p]))(q2:Below base w w')(q3: ∀k,k<w.heap.size->dl.ownBlock≠some k->w'.heap[k]? =w.heap[k]?):
   w'.heap[g]? =some (.cells (wr0 dl) 33 (0,0))/\(w'.setCell ⟨g,0,none⟩ v').heap[g]? =some (.cells (wr0 v') 33 (0,0))/\dt (w'.setCell ⟨g,0,none⟩ v') base 50 v' (vs++ [p])/\Below base w (w'.setCell ⟨g,0,none⟩ v')/\ ∀k,k<w.heap.size->k≠g->dl.ownBlock≠some k->(w'.setCell ⟨g,0,none⟩ v').heap[k]? =w.heap[k]? :=by
 have e0:w'.heap[g]? =some (.cells (wr0 dl) 33 (0,0)):=(q3 g (aC hr) (fun e=>by
   obtain⟨_,cs,a⟩:=hP.ty e
   exact cL a hr (by decide) rfl)).trans hr
 refine⟨e0,by rw [heap_setCell_same _ _ _ _ _ _ e0];rfl,q1.of_heap fun k e=>heap_setCell_other w' ⟨g,0,none⟩ k _ (fun z=>?_),q2.setCell hg _,fun k a b c=>(heap_setCell_other w' ⟨g,0,none⟩ k _ b).trans (q3 k a c)⟩
 obtain⟨_,cs,a⟩:=q1.ty e
 exact cL a e0 (by decide) z
theorem Ou(a b c d:Int)(w:World):(Instr.box 25 (.agg #[.int .i64 a, .int .i64 b, .int .i64 c, .int .i64 d])).run Tryz.prog w= .ok (.pointer (some ⟨w.heap.size,0,none⟩)) (w.alloc (.cells #[.int .i64 a, .int .i64 b, .int .i64 c, .int .i64 d] 25)):=by kernel_rfl
theorem yD{w:World}{ops:Array Oper}{rest:List Oper}{o:Oper}{a:Act}{Q:Exit->Act->World->Prop}(hg:o.guard=none)(x:Operand)(ho:o.op= .box 25 x)(i j k l:Int)(hx:a.eval x= .agg #[.int .i64 i, .int .i64 j, .int .i64 k, .int .i64 l])
   (h:wpList Tryz.prog ops Q rest (a.put o.dst (.pointer (some ⟨w.heap.size,0,none⟩))) (w.alloc (.cells #[.int .i64 i, .int .i64 j, .int .i64 k, .int .i64 l] 25))):wpList Tryz.prog ops Q (o::rest) a w:=by
 refine wpList_plain hg fun K hK=>?_
 unfold Oper.wp execOp
 simp only [ho,hx,Sem.run_bind,Ou,Result.andThen_ok,Sem.run_pure]
 exact hK _ _ h
def so0:au:=⟨0,0,0,0,[],[],[],⟨[],[],true,0,0,0,0,0⟩,sup0,0,0,0,Ca.kq 0, .slice none 0 0,[],[],fun _=>(0,[])⟩
def WD.fresh(g B:Nat)(v:Value)(p1 p2:Nat)(F1 F2:List Nat)(D1 D2:DS):WD:=
 {W:=⟨g,B, .slice none 0 0, .slice none 0 0, .slice none 0 0, .slice none 0 0,[],[],[],[], .slice none 0 0, .slice none 0 0,[],[], .slice none 0 0,[],0,v, .slice none 0 0⟩,pd:=fun i=>if i=0 then p1 else p2,Fd:=fun i=>if i=0 then F1 else F2,Dd:=fun i=>if i=0 then D1 else D2,n:=0,ix:=fun _=>0,so:=fun _=>so0}
theorem LF{w:World}{base g B:Nat}{v:Value}{p1 p2:Nat}{F1 F2:List Nat}{D1 D2:DS}{n1 n2:Nat}{w1 w2:Int}(hg:base<=g)(hB:base<=B)(hr:w.heap[g]? =some (.cells (kH v (.slice none 0 0) B (.slice none 0 0) (.slice none 0 0) (.slice none 0 0) 0) 33 (0,0)))(hk:w.heap[B]? =some (.cells #[.slice none 0 0, .slice none 0 0, .slice none 0 0, .slice none 0 0] 55 (0,0)))(hv:dt w base 50 v [.pointer (some ⟨p1,0,none⟩), .pointer (some ⟨p2,0,none⟩)])(h1:DA w base F1 p1 D1)(h2:DA w base F2 p2 D2)(a:eQ F1 F2)(b1:lz D1 n1 w1)(b2:lz D2 n2 w2)(m1:n1<=64)(m2:n2<=64):
   WI w base (WD.fresh g B v p1 p2 F1 F2 D1 D2) 1000 0:=by
 have two: ∀{i:Nat},i<2->i=0\/i=1:=fun h=>by omega
 refine⟨⟨hg,hr,⟨hB,hk,Bo.cw.nil _ _,Bo.cw.nil _ _,Bo.cw.nil _ _,Bo.cw.nil _ _,?_,?_,?_,?_,?_,?_⟩,Bo.cw.nil _ _,Bo.cw.nil _ _,?_,?_,?_,?_,?_,?_,?_,?_,?_,Own.nil _ _,Or.inl rfl,Nat.zero_le _,rfl,rfl,rfl,Nat.zero_le _,Nat.zero_le _,Nat.zero_le _⟩,fun i hi=>?_,fun i hi=>?_,fun i j hi hj hn=>?_,fun k hk=>absurd hk (Nat.not_lt_zero k),fun j k hj=>absurd hj (Nat.not_lt_zero j),fun j k hj=>absurd hj (Nat.not_lt_zero j),fun k hk=>absurd hk (Nat.not_lt_zero k),fun k e=>(by cases e),fun k e=>(by cases e),hv,dt.nil _ _ _,Nat.zero_le _⟩
 case refine_16=>
   rcases two hi with e| e<;>subst e
   · exact h1
   · exact h2
 case refine_17=>
   rcases two hi with e| e<;>subst e
   · exact b1.db m1
   · exact b2.db m2
 case refine_18=>
   rcases two hi with e| e<;>rcases two hj with f| f<;>subst e<;>subst f
   · exact absurd rfl hn
   · exact a
   · exact fun k q z=>a k z q
   · exact absurd rfl hn
 all_goals exact fun k (e:(none:Option Nat)=some k)=>by cases e
theorem Rh{w0 w3 w4 w6:World}{base g:Nat}{v1 v2:Value}{p1 p2:Nat}{F1 F2:List Nat}{D1 D2:DS}{n1 n2:Nat}{d1 d2:Int}(hg:base<=g)(kz:g<w0.heap.size)(b03:Below w0.heap.size w0 w3)(hr:w3.heap[g]? =some (.cells (wr0 (.slice none 0 0)) 33 (0,0)))
   (q1:dt w4 base 50 v1 [.pointer (some ⟨p1,0,none⟩)]) (q2:Below base w3 w4) (q3: ∀k,k<w3.heap.size->(Value.slice none 0 0).ownBlock≠some k->w4.heap[k]? =w3.heap[k]?) (q4:(v1.ownBlock=(Value.slice none 0 0).ownBlock\/ ∃k,v1.ownBlock=some k/\w3.heap.size<=k))
   (r1:dt w6 base 50 v2 [.pointer (some ⟨p1,0,none⟩), .pointer (some ⟨p2,0,none⟩)]) (r2:Below base (w4.setCell ⟨g,0,none⟩ v1) w6) (r3: ∀k,k<(w4.setCell ⟨g,0,none⟩ v1).heap.size->v1.ownBlock≠some k->w6.heap[k]? =(w4.setCell ⟨g,0,none⟩ v1).heap[k]?) (r4:(v2.ownBlock=v1.ownBlock\/ ∃k,v2.ownBlock=some k/\(w4.setCell ⟨g,0,none⟩ v1).heap.size<=k))
   (h1:DA w3 w0.heap.size F1 p1 D1) (h2:DA w3 w0.heap.size F2 p2 D2) (a:eQ F1 F2) (b1:lz D1 n1 d1) (b2:lz D2 n2 d2) (m1:n1<=64) (m2:n2<=64) (W9:World) (hW:W9=((w6.setCell ⟨g,0,none⟩ v2).alloc (.cells #[.slice none 0 0, .slice none 0 0, .slice none 0 0, .slice none 0 0] 55)).setCell ⟨g,2,none⟩ (.pointer (some ⟨(w6.setCell ⟨g,0,none⟩ v2).heap.size,0,none⟩))):
   ∃X:WD,WI W9 base X 1000 0/\X.W.g=g/\X.n=0/\lz (X.Dd 0) n1 d1/\lz (X.Dd 1) n2 d2/\Below base w0 W9/\Fr [g] w0 W9/\ ∀q∈X.fp,q=g\/w0.heap.size<=q:=by
 obtain⟨x0,x1,x2,x3,x4⟩:=uf hr (dt.nil w3 base 50) hg q1 q2 q3
 obtain⟨y0,y1,y2,y3,y4⟩:=uf x1 x2 hg r1 r2 r3
 have hb0:base<=w0.heap.size:=by omega
 have hv1: ∀k,v1.ownBlock=some k->w3.heap.size<=k:=fun k e=>by
   rcases q4 with z| ⟨k2,z1,z2⟩
   · rw [z]at e;cases e
   · rw [z1]at e;injection e with e;omega
 have hs5:w3.heap.size<=(w4.setCell ⟨g,0,none⟩ v1).heap.size:=x3.size
 have hv2: ∀k,v2.ownBlock=some k->w3.heap.size<=k:=fun k e=>by
   rcases r4 with z| ⟨k2,z1,z2⟩
   · rw [z]at e;exact hv1 k e
   · rw [z1]at e;injection e with e;omega
 generalize hw7:w6.setCell ⟨g,0,none⟩ v2=w7 at*
 have hs7:w3.heap.size<=w7.heap.size:=Nat.le_trans hs5 y3.size
 have k7: ∀k,k<w3.heap.size->k≠g->w7.heap[k]? =w3.heap[k]? :=fun k e n=>(y4 k (by omega) n (fun z=>by have:=hv1 k z;omega)).trans (x4 k e n (fun z=>by cases z))
 have b8:=aq w7 (.cells #[.slice none 0 0, .slice none 0 0, .slice none 0 0, .slice none 0 0] 55)
 have hB8:=aF w7 (.cells #[.slice none 0 0, .slice none 0 0, .slice none 0 0, .slice none 0 0] 55)
 have r8:(w7.alloc (.cells #[.slice none 0 0, .slice none 0 0, .slice none 0 0, .slice none 0 0] 55)).heap[g]? =some (.cells (wr0 v2) 33 (0,0)):=(b8.block g (aC y1)).trans y1
 generalize hw8:w7.alloc (.cells #[.slice none 0 0, .slice none 0 0, .slice none 0 0, .slice none 0 0] 55)=w8 at*
 have k9: ∀k,k≠g->W9.heap[k]? =w8.heap[k]? :=fun k e=>by rw [hW];exact heap_setCell_other w8 ⟨g,2,none⟩ k _ e
 have r9:W9.heap[g]? =some (.cells (kH v2 (.slice none 0 0) w7.heap.size (.slice none 0 0) (.slice none 0 0) (.slice none 0 0) 0) 33 (0,0)):=by
   rw [hW,heap_setCell_same _ _ _ _ _ _ r8];rfl
 have hgB:g≠w7.heap.size:=Nat.ne_of_lt (by have:=b03.size;omega)
 have b9:Below base w7 W9:=by rw [hW];exact(b8.mono (Nat.le_trans hb0 (Nat.le_trans b03.size hs7))).setCell hg _
 have k39: ∀k,k<w3.heap.size->k≠g->W9.heap[k]? =w3.heap[k]? :=fun k e n=>(k9 k n).trans ((b8.block k (by omega)).trans (k7 k e n))
 have nF: ∀{F:List Nat} {p:Nat} {D:DS},DA w3 w0.heap.size F p D-> ∀k∈F,k≠g:=fun h k q e=>by have:=(h.lt k q).1;omega
 have JG:Below base w0 W9:=(((b03.mono hb0).trans x3).trans y3).trans b9
 refine⟨WD.fresh g w7.heap.size v2 p1 p2 F1 F2 D1 D2,LF hg (Nat.le_trans hb0 (Nat.le_trans b03.size hs7)) r9 ((k9 _ hgB.symm).trans hB8) (y2.of_heap fun k e=>?_) ((h1.of_heap fun k q=>k39 k (h1.lt k q).2 (nF h1 k q)).lower hb0) ((h2.of_heap fun k q=>k39 k (h2.lt k q).2 (nF h2 k q)).lower hb0) a b1 b2 m1 m2,rfl,rfl,b1,b2,JG,⟨JG.os,JG.tape,JG.output,JG.size,fun k e n=>?_⟩,fun q hq=>?_⟩
 · have e1:=(aH y2 k e)
   obtain⟨_,cs,e2⟩:=y2.ty e
   exact(k9 k (fun z=>cL e2 y1 (by decide) z)).trans (b8.block k (aC e2))
 · exact(k39 k (by have:=b03.size;omega) (fun z=>n (by rw [z];exact List.mem_singleton.2 rfl))).trans (b03.block k e)
 · have s3:=b03.size
   rcases((WD.fresh g w7.heap.size v2 p1 p2 F1 F2 D1 D2).mem q).1 hq with e| e| e| e| e| ⟨j,hj,e⟩
   · rcases(Wr.mem _ q).1 e with f| f| f| f| f| f| f| f| f
     · exact Or.inl f
     · exact Or.inr (by rw [show q=w7.heap.size from f];omega)
     all_goals cases f
   · have:=hv2 q e;exact Or.inr (by omega)
   · cases e
   · exact Or.inr (h1.lt q e).1
   · exact Or.inr (h2.lt q e).1
   · exact absurd hj (Nat.not_lt_zero j)
theorem zN(w0:World)(base g:Nat)(hr:w0.heap[g]? =some (.cells (wr0 (.slice none 0 0)) 33 (0,0)))(hg:base<=g)(n1 n2:Nat)(d1 d2:Int)(h1:3<=n1/\n1<=64)(h2:3<=n2/\n2<=64)(k1:1<=d1/\d1<=32)(k2:1<=d2/\d2<=32):
   Calls Tryz.prog 5 #[.pointer (some ⟨g,0,none⟩), .agg #[.int .i64 n1, .int .i64 d1, .int .i64 n2, .int .i64 d2]] w0 fun e W9=>e= .returned (.bool true)/\ ∃X:WD,WI W9 base X 1000 0/\X.W.g=g/\X.n=0/\lz (X.Dd 0) n1 d1/\lz (X.Dd 1) n2 d2/\Below base w0 W9/\Fr [g] w0 W9/\ ∀q∈X.fp,q=g\/w0.heap.size<=q:=by
 have HR:=aa hr
 have HG:=aa hg
 have HN:=aa (And.intro h1 (And.intro h2 (And.intro k1 k2)))
 have kz:=aC hr
 have xJ:=aa kz
 obtain⟨w1,hw1⟩: ∃w1,w1=w0.alloc (.cells #[.int .i64 n1, .int .i64 d1, .int .i64 n2, .int .i64 d2] 25):=⟨_,rfl⟩
 have HW1:=aa hw1
 have z1:w1.heap.size=w0.heap.size+1:=by rw [hw1];exact Array.size_push _
 have hS:w1.heap[w0.heap.size]? =some (.cells #[.int .i64 n1, .int .i64 d1, .int .i64 n2, .int .i64 d2] 25 (0,0)):=by rw [hw1];exact aF _ _
 have b1:Below w0.heap.size w0 w1:=by rw [hw1];exact aq _ _
 have HB1:=aa b1
 have HZ1:=aa z1
 have Ri:Hid (∀wX:World,Below w1.heap.size w1 wX->wX.cell? ⟨w0.heap.size,0,none⟩=some (.int .i64 n1)/\wX.cell? ⟨w0.heap.size,1,none⟩=some (.int .i64 d1)/\wX.cell? ⟨w0.heap.size,2,none⟩=some (.int .i64 n2)/\wX.cell? ⟨w0.heap.size,3,none⟩=some (.int .i64 d2)):=aa (fun wX q=>by
   have e:=(q.block _ (aC hS)).trans hS
   refine⟨?_,?_,?_,?_⟩<;>(rw [cell_of_row _ _ _ _ _ _ e];rfl))
 have HBG1:=aa (zM w1 n1 d1 h1 k1)
 have HBG2:=aa (fun w2=>zM w2 n2 d2 h2 k2)
 clear hr hg h1 h2 k1 k2 kz hw1 z1 hS b1
 go_enter Tryz.func5,Tryz.ntmps5
 go_wp2_with (first
   | refine yD rfl (.tmp 1) rfl _ _ _ _ rfl ?_
   | fail)
 rw [<-HW1.out]
 obtain⟨c0,c1,-,-⟩:=Ri.out w1 (Below.refl _ _)
 go_wp2_with fail
 refine HBG1.out.mono ?_
 rintro e w2 ⟨p1,F1,D1,rfl,hD1,hB1,hb2⟩
 have HD1:=aa hD1
 have HBN1:=aa hB1
 have HB2:=aa hb2
 obtain⟨-,-,c2,c3⟩:=Ri.out w2 hb2
 clear hD1 hB1 hb2 c0 c1 HBG1
 go_wp2_with fail
 refine(HBG2.out w2).mono ?_
 rintro e w3 ⟨p2,F2,D2,rfl,hD2,hB2,hb3⟩
 have HD2:=aa hD2
 have HBN2:=aa hB2
 have HB3:=aa hb3
 have hb03:Below w0.heap.size w0 w3:=(HB1.out.trans (HB2.out.mono (by rw [HZ1.out];omega))).trans (hb3.mono (by have:=HZ1.out;have:=HB2.out.size;omega))
 have HB03:=aa hb03
 have hr3:=(hb03.block _ xJ.out).trans HR.out
 have HR3:=aa hr3
 have cg:w3.cell? ⟨g,0,none⟩=some (.slice none 0 0):=by rw [cell_of_row _ _ _ _ _ _ hr3];rfl
 have HBS1:=aa (show base<=w3.heap.size by have:=HG.out;have:=xJ.out;have:=hb03.size;omega)
 clear hD2 hB2 hb3 c2 c3 hb03 hr3 HBG2 Ri
 go_wp2_with (at_builtin;refine rJ rfl (.tmp 27) (.tmp 29) rfl base (.slice none 0 0) [] [.pointer (some ⟨p1,0,none⟩)] rfl (dt.nil _ _ _) (by first| rfl| (rw [World.size_setCell];rfl)) (by intro y hy;rw [List.mem_singleton.1 hy];rfl) (by simp) HBS1.out _ _ ?_;intro v1 w4 q1 q2 q3 q4;refine Hid.out ?_)
 refine aa ?_
 have X1:=aa (uf HR3.out (dt.nil w3 base 50) HG.out q1 q2 q3)
 have Q1:=aa (And.intro q1 (And.intro q2 (And.intro q3 q4)))
 obtain⟨sa,ca,bz,gZ,-,-,-,-⟩:=q1.at
 simp only [List.length_append,List.length_cons,List.length_nil,Nat.zero_add]at gZ
 subst gZ
 clear q1 q2 q3 q4 cg
 have cc1:w4.cell? ⟨g,0,none⟩=some (.slice none 0 0):=by rw [cell_of_row _ _ _ _ _ _ X1.out.1];rfl
 have ff1:w4.frozen? ⟨g,0,none⟩=false:=frozen_of_row _ _ _ _ _ X1.out.1
 have HW5:=aa (show∃w5,w5=w4.setCell ⟨g,0,none⟩ (.slice sa 1 ca)from⟨_,rfl⟩)
 obtain⟨w5,hw5⟩:=HW5.out
 have HX5:=aa hw5
 have cc5:w5.cell? ⟨g,0,none⟩=some (.slice sa 1 ca):=by rw [hw5,cell_of_row _ _ _ _ _ _ X1.out.2.1];rfl
 rw [hw5]at cc5
 have WB:Hid (dt (w4.setCell ⟨g,0,none⟩ (.slice sa 1 ca)) base 50 (.slice sa 1 ca) [.pointer (some ⟨p1,0,none⟩)]):=aa X1.out.2.2.1
 have HBS2:=aa (show base<=(w4.setCell ⟨g,0,none⟩ (.slice sa 1 ca)).heap.size from Nat.le_trans HBS1.out X1.out.2.2.2.1.size)
 clear hw5 HW5 HX5
 go_wp2_with (at_builtin;refine rJ rfl (.tmp 37) (.tmp 39) rfl base (.slice sa 1 ca) [.pointer (some ⟨p1,0,none⟩)] [.pointer (some ⟨p2,0,none⟩)] rfl WB.out (by first| rfl| (rw [World.size_setCell];rfl)) (by intro y hy;rw [List.mem_singleton.1 hy];rfl) (by simp) HBS2.out _ _ ?_;intro v2 w6 q1 q2 q3 q4;refine Hid.out ?_)
 refine aa ?_
 have X2:=aa (uf X1.out.2.1 X1.out.2.2.1 HG.out q1 q2 q3)
 have Q2:=aa (And.intro q1 (And.intro q2 (And.intro q3 q4)))
 obtain⟨sb,cb,bz2,uD,-,-,-,-⟩:=q1.at
 simp only [List.length_append,List.length_cons,List.length_nil,Nat.zero_add]at uD
 subst uD
 clear q1 q2 q3 q4 cc1 ff1 cc5
 have dd1:w6.cell? ⟨g,0,none⟩=some (.slice sa 1 ca):=by rw [cell_of_row _ _ _ _ _ _ X2.out.1];rfl
 have gg1:w6.frozen? ⟨g,0,none⟩=false:=frozen_of_row _ _ _ _ _ X2.out.1
 have r8:((w6.setCell ⟨g,0,none⟩ (.slice sb 2 cb)).alloc (.cells #[.slice none 0 0, .slice none 0 0, .slice none 0 0, .slice none 0 0] 55)).heap[g]? =some (.cells (wr0 (.slice sb 2 cb)) 33 (0,0)):=hold X2.out.2.1
 have dd2:((w6.setCell ⟨g,0,none⟩ (.slice sb 2 cb)).alloc (.cells #[.slice none 0 0, .slice none 0 0, .slice none 0 0, .slice none 0 0] 55)).cell? ⟨g,2,none⟩=some (.pointer none):=by rw [cell_of_row _ _ _ _ _ _ r8];rfl
 have gg2:((w6.setCell ⟨g,0,none⟩ (.slice sb 2 cb)).alloc (.cells #[.slice none 0 0, .slice none 0 0, .slice none 0 0, .slice none 0 0] 55)).frozen? ⟨g,2,none⟩=false:=frozen_of_row _ _ _ _ _ r8
 clear r8
 go_wp2_with fail
 go_ret
 refine⟨rfl,?_⟩
 have hl:=HN.out
 have h13:DA w3 w0.heap.size F1 p1 D1:=(HD1.out.below (HB3.out)).lower (by rw [HZ1.out];omega)
 have h23:DA w3 w0.heap.size F2 p2 D2:=HD2.out.lower (by have:=HZ1.out;have:=HB2.out.size;omega)
 refine Rh HG.out xJ.out HB03.out HR3.out Q1.out.1 Q1.out.2.1 Q1.out.2.2.1 Q1.out.2.2.2 Q2.out.1 Q2.out.2.1 Q2.out.2.2.1 Q2.out.2.2.2 h13 h23 (fun k q z=>?_) HBN1.out HBN2.out (by omega) (by omega) _ ?_
 · have:=(HD1.out.lt k q).2
   have:=(HD2.out.lt k z).1
   omega
 · rw [World.size_setCell]
theorem Ov(E N:Int)(md:Bool)(sp:Option Addr)(l c:Nat)(s:aD)(t1 t2 t3 t4 t5 c0 c1 c2 c3:Int)(w:World):(Instr.box 46 (.agg (aN E N md (.slice sp l c) s t1 t2 t3 t4 t5 c0 c1 c2 c3))).run Tryz.prog w= .ok (.pointer (some ⟨w.heap.size,0,none⟩)) (w.alloc (.cells (aN E N md (.slice sp l c) s t1 t2 t3 t4 t5 c0 c1 c2 c3) 46)):=by kernel_rfl
theorem qp{w:World}{ops:Array Oper}{rest:List Oper}{o:Oper}{a:Act}{Q:Exit->Act->World->Prop}(hg:o.guard=none)(x:Operand)(ho:o.op= .box 46 x)(E N:Int)(md:Bool)(sp:Option Addr)(l c:Nat)(s:aD)(t1 t2 t3 t4 t5 c0 c1 c2 c3:Int)(hx:a.eval x= .agg (aN E N md (.slice sp l c) s t1 t2 t3 t4 t5 c0 c1 c2 c3))
   (h:wpList Tryz.prog ops Q rest (a.put o.dst (.pointer (some ⟨w.heap.size,0,none⟩))) (w.alloc (.cells (aN E N md (.slice sp l c) s t1 t2 t3 t4 t5 c0 c1 c2 c3) 46))):wpList Tryz.prog ops Q (o::rest) a w:=by
 refine wpList_plain hg fun K hK=>?_
 unfold Oper.wp execOp
 simp only [ho,hx,Sem.run_bind,Ov,Result.andThen_ok,Sem.run_pure]
 exact hK _ _ h
theorem lU:(Tryz.prog.info? 42).map (·.size)=some 5:=by kernel_rfl
def Rj(w':World)(g:Nat)(E N:Int)(md:Bool)(rv:Value)(s:aD)(t1 t2 t3 t4 t5 c0 c1 c2 c3:Int):Prop:=w'.cell? ⟨g,0,none⟩=some (.int .i64 E)/\w'.cell? ⟨g,1,none⟩=some (.int .i64 N)/\w'.cell? ⟨g,2,none⟩=some (.bool md)/\w'.cell? ⟨g,3,none⟩=some rv/\w'.cell? ⟨g,4,none⟩=some (.int .i64 s.wd)/\w'.cell? ⟨g,5,none⟩=some (.int .i64 s.ge)/\w'.cell? ⟨g,6,none⟩=some (.int .i64 s.ma)/\w'.cell? ⟨g,7,none⟩=some (.int .i64 s.hd)/\w'.cell? ⟨g,8,none⟩=some (.int .i64 s.pg)/\w'.cell? ⟨g,9,none⟩=some (.int .i64 t1)/\w'.cell? ⟨g,10,none⟩=some (.int .i64 t2)/\w'.cell? ⟨g,11,none⟩=some (.int .i64 t3)/\w'.cell? ⟨g,12,none⟩=some (.int .i64 t4)/\w'.cell? ⟨g,13,none⟩=some (.int .i64 t5)/\w'.cell? ⟨g,14,none⟩=some (.int .i64 c0)/\w'.cell? ⟨g,15,none⟩=some (.int .i64 c1)/\w'.cell? ⟨g,16,none⟩=some (.int .i64 c2)/\w'.cell? ⟨g,17,none⟩=some (.int .i64 c3)
theorem JH{w':World}{g:Nat}{E N:Int}{md:Bool}{rv:Value}{s:aD}{t1 t2 t3 t4 t5 c0 c1 c2 c3:Int}(h:w'.heap[g]? =some (.cells (aN E N md rv s t1 t2 t3 t4 t5 c0 c1 c2 c3) 46 (0,0))):Rj w' g E N md rv s t1 t2 t3 t4 t5 c0 c1 c2 c3:=by
 have e: ∀j,w'.cell? ⟨g,j,none⟩=(aN E N md rv s t1 t2 t3 t4 t5 c0 c1 c2 c3)[j]? :=fun j=>cell_of_row _ _ _ _ _ _ h
 exact⟨e 0,e 1,e 2,e 3,e 4,e 5,e 6,e 7,e 8,e 9,e 10,e 11,e 12,e 13,e 14,e 15,e 16,e 17⟩
theorem zO(w0:World)(E N:Int)(md:Bool)(rz:List Int)(sp1 sp2:Option Addr)(cp1 cp2:Nat)(s:aD)(t1 t2 t3 t4 t5 c0 c1 c2 c3:Int)(h1:Src w0 sp1 cp1 rz)(h2:Src w0 sp2 cp2 rz):
   Calls Tryz.prog 8 #[.agg (aN E N md (.slice sp1 rz.length cp1) s t1 t2 t3 t4 t5 c0 c1 c2 c3), .agg (aN E N md (.slice sp2 rz.length cp2) s t1 t2 t3 t4 t5 c0 c1 c2 c3)] w0 fun e w'=>e= .returned (.bool true)/\Below w0.heap.size w0 w':=by
 obtain⟨w2,hw2⟩: ∃w2,w2=(w0.alloc (.cells (aN E N md (.slice sp1 rz.length cp1) s t1 t2 t3 t4 t5 c0 c1 c2 c3) 46)).alloc (.cells (aN E N md (.slice sp2 rz.length cp2) s t1 t2 t3 t4 t5 c0 c1 c2 c3) 46):=⟨_,rfl⟩
 have HW2:=aa hw2
 have hb2:Below w0.heap.size w0 w2:=by rw [hw2];exact Ca.below2 _ _ _
 have r1:w2.heap[w0.heap.size]? =some (.cells (aN E N md (.slice sp1 rz.length cp1) s t1 t2 t3 t4 t5 c0 c1 c2 c3) 46 (0,0)):=by rw [hw2];exact Ca.hold2 _ _ _
 have r2:w2.heap[w0.heap.size+1]? =some (.cells (aN E N md (.slice sp2 rz.length cp2) s t1 t2 t3 t4 t5 c0 c1 c2 c3) 46 (0,0)):=by rw [hw2];exact Ca.hnew2 _ _ _
 have mK:Hid (∀w',Below w2.heap.size w2 w'->Rj w' w0.heap.size E N md (.slice sp1 rz.length cp1) s t1 t2 t3 t4 t5 c0 c1 c2 c3/\Rj w' (w0.heap.size+1) E N md (.slice sp2 rz.length cp2) s t1 t2 t3 t4 t5 c0 c1 c2 c3):=aa (fun w' q=>⟨JH ((q.block _ (aC r1)).trans r1),JH ((q.block _ (aC r2)).trans r2)⟩)
 have iz:Hid (∀w',Below w2.heap.size w2 w'->Calls Tryz.prog 9 #[.slice sp1 rz.length cp1, .slice sp2 rz.length cp2] w' fun e w''=>e= .returned (.bool true)/\Below w'.heap.size w' w''):=aa (fun w' q=>by
   have qb:=hb2.trans (q.mono hb2.size)
   have z:=kg w' rz rz sp1 sp2 cp1 cp2 (h1.below qb (Nat.le_refl _)) (h2.below qb (Nat.le_refl _))
   rwa [show decide (rz=rz)=true by simp]at z)
 have HB2:=aa hb2
 clear h1 h2 hw2 hb2 r1 r2
 obtain⟨a0,a1,a2,a3,-⟩:=(mK.out _ (Below.refl _ _)).1
 obtain⟨b0,b1,b2,b3,-⟩:=(mK.out _ (Below.refl _ _)).2
 go_enter Tryz.func8,Tryz.ntmps8
 go_wp2_with (first
   | refine qp rfl (.tmp 0) rfl _ _ _ _ _ _ _ _ _ _ _ _ _ _ _ _ rfl ?_
   | (refine qp rfl (.tmp 1) rfl _ _ _ _ _ _ _ _ _ _ _ _ _ _ _ _ rfl ?_;rw [<-HW2.out])
   | fail)
 refine(iz.out _ (Below.refl _ _)).mono ?_
 rintro e w3 ⟨rfl,hb3⟩
 clear a0 a1 a2 a3 b0 b1 b2 b3
 obtain⟨-,-,-,-,r4,r5,r6,r7,r8,r9,r10,r11,r12,r13,r14,r15,r16,r17⟩:=(mK.out _ hb3).1
 obtain⟨-,-,-,-,q4,q5,q6,q7,q8,q9,q10,q11,q12,q13,q14,q15,q16,q17⟩:=(mK.out _ hb3).2
 have HB3:=aa hb3
 clear hb3
 go_wp2_with fail
 go_ret
 exact⟨rfl,HB2.out.trans (HB3.out.mono HB2.out.size)⟩
structure LO where
 kd:Int
 at_:Int
 n:Int
 m:Int
 zs:List Int
 bt:Nat
def dO:LO:=⟨0,0,0,0,[],0⟩
def Rk(o:LO)(tp:Option Addr)(tc:Nat):List Value:=(aK o.kd o.at_ o.n o.m (.slice tp o.zs.length tc) o.bt).toList
def TZ(w:World)(B:Nat)(sp:Option Addr)(os:List LO):Prop:= ∃b f,(0<os.length->b<B/\sp=some ⟨b,f,none⟩)/\ ∀i,i<os.length-> ∃tp tc,w.rangeAt b (f+i*6) (Rk (os.getD i dO) tp tc)/\Src w tp tc (os.getD i dO).zs/\(0<(os.getD i dO).zs.length-> ∀a,tp=some a->a.block<B)/\aS (os.getD i dO).zs/\(os.getD i dO).zs.length<=140737488352000/\(-9223372036854775808<=(os.getD i dO).at_/\(os.getD i dO).at_<=9223372036854775807)/\(os.getD i dO).n<=9223372036854775807
def LR(w0 wr:World)(base g1 g2 n:Nat)(j:Nat):Prop:= ∃X Y P,WI wr base X (1000+200*j) j/\WI wr base Y (1000+200*j) j/\X.W.g=g1/\Y.W.g=g2/\lu X P/\lu Y P/\eQ X.fp Y.fp/\(X.Dd 0).np=n/\Below base w0 wr
theorem LR.below{w0 wr w1:World}{base g1 g2 n j:Nat}(h:LR w0 wr base g1 g2 n j)(hb:Below wr.heap.size wr w1)(hw:base<=wr.heap.size):LR w0 w1 base g1 g2 n j:=by
 obtain⟨X,Y,P,a1,a2,a3,a4,a5,a6,a7,a8,a9⟩:=h
 exact⟨X,Y,P,a1.below hb,a2.below hb,a3,a4,a5,a6,a7,a8,a9.trans (hb.mono hw)⟩
theorem LR.more{w0 wr:World}{base g1 g2 n j:Nat}(h:LR w0 wr base g1 g2 n j):LR w0 wr base g1 g2 n (j+1):=by
 obtain⟨X,Y,P,a1,a2,a3⟩:=h
 exact⟨X,Y,P,a1.more _ _ (by omega) (by omega),a2.more _ _ (by omega) (by omega),a3⟩
theorem LG{w w1 w2 w3 w4:World}{base g1 g2 n:Nat}{wd:Int}{X Y:WD}(h0:base<=w.heap.size)(b01:Below base w w1)(h12:g1≠g2)(hg2:g2<w1.heap.size)
   (hX:WI w2 base X 1000 0) (gX:X.W.g=g1) (nX:X.n=0) (x1:lz (X.Dd 0) n wd) (x2:lz (X.Dd 1) n wd) (xb:Below base w1 w2) (xf:Fr [g1] w1 w2) (xp: ∀q∈X.fp,q=g1\/w1.heap.size<=q)
   (hY:WI w3 base Y 1000 0) (gY:Y.W.g=g2) (nY:Y.n=0) (y1:lz (Y.Dd 0) n wd) (y2:lz (Y.Dd 1) n wd) (yb:Below base w2 w3) (yf:Fr [g2] w2 w3) (yp: ∀q∈Y.fp,q=g2\/w2.heap.size<=q) (hk:Below w3.heap.size w3 w4):
   LR w w4 base g1 g2 n 0:=by
 have ap:eQ X.fp [g2]:=fun k q z=>by
   have e:=List.mem_singleton.1 z
   rcases xp k q with y| y
   · exact h12 (y.symm.trans e)
   · omega
 have e: ∀a,a<2->er (Y.Dd a)=er (X.Dd a):=fun a ha=>by
   rcases(show a=0\/a=1 by omega)with q| q<;>subst q
   · rw [JF y1 x1]
   · rw [JF y2 x2]
 have hX3:=hX.fr yf ap
 refine⟨X,Y,⟨fun a=>er (X.Dd a),0,fun _=>0,fun _=>bH so0⟩,hX3.below hk,hY.below hk,gX,gY,⟨fun a _=>rfl,nX,fun k hk=>absurd hk (by rw [nX];exact Nat.not_lt_zero k)⟩,⟨e,nY,fun k hk=>absurd hk (by rw [nY];exact Nat.not_lt_zero k)⟩,fun k q z=>?_,x1.1.np,((b01.trans xb).trans yb).trans (hk.mono (Nat.le_trans h0 (Nat.le_trans b01.size (Nat.le_trans xb.size yb.size))))⟩
 rcases yp k z with y| y
 · exact ap k q (List.mem_singleton.2 y)
 · have:=(hX.lt q).2;omega
theorem al3(w:World)(A B C:Array Value)(t u v:TypeId)(w1:World)(h:w1=((w.alloc (.cells A t)).alloc (.cells B u)).alloc (.cells C v)):
   w1.heap.size=w.heap.size+1+1+1/\w1.heap[w.heap.size]? =some (.cells A t (0,0))/\w1.heap[w.heap.size+1]? =some (.cells B u (0,0))/\w1.heap[w.heap.size+1+1]? =some (.cells C v (0,0))/\Below w.heap.size w w1:=by
 subst h
 have s1:(w.alloc (.cells A t)).heap.size=w.heap.size+1:=Array.size_push _
 have s2:((w.alloc (.cells A t)).alloc (.cells B u)).heap.size=w.heap.size+1+1:=(Array.size_push _).trans (by rw [s1])
 have r1:=aF (w.alloc (.cells A t)) (.cells B u)
 have r2:=aF ((w.alloc (.cells A t)).alloc (.cells B u)) (.cells C v)
 rw [s1]at r1
 rw [s2]at r2
 exact⟨(Array.size_push _).trans (by rw [s2]),hold (hold (aF _ _)),hold r1,r2,(Ca.below2 w _ _).trans ((aq _ _).mono (by rw [s2];omega))⟩
theorem LM(P:PW)(at_ na nb mm:Int)(zr:List Int):dV P 1 at_ na mm zr=dV P 1 at_ nb mm zr:=by
 unfold dV
 rw [if_pos rfl,if_pos rfl]
theorem xL{w4 w5:World}{base:Nat}{X Y X':WD}{b c b' c':Nat}(hX:WI w4 base X b c)(hY:WI w4 base Y b c)(ap:eQ X.fp Y.fp)(xN:WI w5 base X' b' c')(hF:Fr X.fp w4 w5)(hG:Gr w4 X.fp X'.fp)(A:Array Value):
   WI (w5.alloc (.cells A 46)) base Y b c/\WI (w5.alloc (.cells A 46)) base X' b' c'/\eQ X'.fp Y.fp/\ ∀k,k<w4.heap.size->k∉X.fp->(w5.alloc (.cells A 46)).heap[k]? =w4.heap[k]? :=by
 have b5:=aq w5 (.cells A 46)
 refine⟨(hY.fr hF fun k q z=>ap k z q).below b5,xN.below b5,fun k q z=>?_,fun k a q=>(b5.block k (by have:=hF.size;omega)).trans (hF.block k a q)⟩
 rcases hG k q with y| y
 · exact ap k y z
 · have:=(hY.lt z).2;omega
theorem uO{w6 w7 w8 w9:World}{base lo gA:Nat}{X Y Y':WD}{b c b' c':Nat}{A B:Array Value}{rv rv2:Value}{rz rz2:List Int}(hX:WI w6 base X b' c')(hY:WI w6 base Y b c)(ap:eQ X.fp Y.fp)(zP:WI w7 base Y' b' c')(hF:Fr Y.fp w6 w7)(hG:Gr w6 Y.fp Y'.fp)(kz:gA<w6.heap.size)(WG:gA∉X.fp)(Ua:gA∉Y.fp)(hrow:w6.heap[gA]? =some (.cells A 46 (0,0)))
   (h8:w8=w7.alloc (.cells B 46)) (kp: ∀k,k≠gA->w9.heap[k]? =w8.heap[k]?) (hs:w8.heap.size<=w9.heap.size) (hO:Own w6 lo rv rz) (hO1: ∀k,rv.ownBlock=some k->k<w6.heap.size/\k≠gA/\k∉Y.fp) (hO2:Own w7 w6.heap.size rv2 rz2):
   WI w9 base X b' c'/\WI w9 base Y' b' c'/\eQ X.fp Y'.fp/\w8.heap[gA]? =some (.cells A 46 (0,0))/\Own w9 lo rv rz/\Own w9 w6.heap.size rv2 rz2/\w9.heap[w7.heap.size]? =some (.cells B 46 (0,0)):=by
 have b8:=aq w7 (.cells B 46)
 have r8:=aF w7 (.cells B 46)
 rw [<-h8]at b8 r8
 have s7:=hF.size
 have s8:=b8.size
 have k7: ∀k,k<w7.heap.size->k≠gA->w9.heap[k]? =w7.heap[k]? :=fun k a n=>(kp k n).trans (b8.block k a)
 have k6: ∀k,k<w6.heap.size->k≠gA->k∉Y.fp->w9.heap[k]? =w6.heap[k]? :=fun k a n q=>(k7 k (by omega) n).trans (hF.block k a q)
 have CH:gA∉Y'.fp:=fun q=>by
   rcases hG gA q with y| y
   · exact Ua y
   · omega
 refine⟨hX.of_heap (fun k q=>k6 k (hX.lt q).2 (fun e=>WG (e▸q)) (ap k q)) (by omega),zP.of_heap (fun k q=>k7 k (zP.lt q).2 (fun e=>CH (e▸q))) (by omega),fun k q z=>?_,(b8.block gA (by omega)).trans ((hF.block gA kz Ua).trans hrow),hO.of_heap fun k e=>?_,hO2.of_heap fun k e=>?_,(kp _ (by omega)).trans r8⟩
 · rcases hG k z with y| y
   · exact ap k q y
   · have:=(hX.lt q).2;omega
 · obtain⟨e1,e2,e3⟩:=hO1 k e
   exact k6 k e1 e2 e3
 · obtain⟨e1,cur,e2⟩:=aH hO2 k e
   exact k7 k (aC e2) (by omega)
theorem CI{w:World}{g:Nat}{E N:Int}{md:Bool}{sp:Option Addr}{l cp:Nat}{s:aD}{t1 t2 t3 t4 t5 c0 c1 c2 c3:Int}(h:w.heap[g]? =some (.cells (aN E N md (.slice sp l cp) s t1 t2 t3 t4 t5 c0 c1 c2 c3) 46 (0,0)))(u1 u2 u3 u4 u5 d0:Int):
   w.setCells g 9 [.int .i64 u1, .int .i64 u2, .int .i64 u3, .int .i64 u4, .int .i64 u5]=w.setRow g (aN E N md (.slice sp l cp) s u1 u2 u3 u4 u5 c0 c1 c2 c3):=by
 have h2:w.heap[g]? =some (.cells (aN E N md (.slice sp l cp) s t1 t2 t3 t4 t5 c0 c1 c2 c3).toList.toArray 46 (0,0)):=by rw [Array.toArray_toList];exact h
 rw [rX h2 (by simp [aN]) (by intro v hv;simp at hv;rcases hv with e| e| e| e| e<;>rw [e]<;>rfl)]
 rfl
theorem CJ{w:World}{g:Nat}{E N:Int}{md:Bool}{sp:Option Addr}{l cp:Nat}{s:aD}{t1 t2 t3 t4 t5 c0 c1 c2 c3:Int}(h:w.heap[g]? =some (.cells (aN E N md (.slice sp l cp) s t1 t2 t3 t4 t5 c0 c1 c2 c3) 46 (0,0)))(u1 u2 u3 u4 u5 d0:Int):
   ((w.setRow g (aN E N md (.slice sp l cp) s u1 u2 u3 u4 u5 c0 c1 c2 c3)).setCell ⟨g,14,none⟩ (.int .i64 d0)).heap[g]? =some (.cells (aN E N md (.slice sp l cp) s u1 u2 u3 u4 u5 d0 c1 c2 c3) 46 (0,0))/\(w.setRow g (aN E N md (.slice sp l cp) s u1 u2 u3 u4 u5 c0 c1 c2 c3)).heap[g]? =some (.cells (aN E N md (.slice sp l cp) s u1 u2 u3 u4 u5 c0 c1 c2 c3) 46 (0,0))/\(∀k,k≠g->((w.setRow g (aN E N md (.slice sp l cp) s u1 u2 u3 u4 u5 c0 c1 c2 c3)).setCell ⟨g,14,none⟩ (.int .i64 d0)).heap[k]? =w.heap[k]?)/\w.heap.size<=((w.setRow g (aN E N md (.slice sp l cp) s u1 u2 u3 u4 u5 c0 c1 c2 c3)).setCell ⟨g,14,none⟩ (.int .i64 d0)).heap.size:=by
 have r:=setRow_heap w g _ (aN E N md (.slice sp l cp) s u1 u2 u3 u4 u5 c0 c1 c2 c3) _ _ h
 refine⟨by rw [heap_setCell_same _ _ _ _ _ _ r];rfl,r,fun k e=>(heap_setCell_other _ ⟨g,14,none⟩ k _ e).trans (setRow_other _ _ _ _ e),by rw [World.size_setCell,size_setRow];exact Nat.le_refl _⟩
theorem rh{w:World}{base n cap:Nat}{sp:Option Addr}{zs:List Int}(h:Own w base (.slice sp n cap) zs):Src w sp cap zs:=by
 obtain⟨a,b,e,h2,-⟩:=h.form
 injection e with e1 e2 e3
 subst e1
 subst e3
 exact h2
theorem pq{w:World}{g:Nat}{cs:Array Value}{t:TypeId}(h:w.heap[g]? =some (.cells cs t (0,0))):w.rangeAt g 0 cs.toList:=fun j v hv=>by
 rw [Nat.zero_add,cell_of_row _ _ _ _ _ _ h,<-hv];simp
theorem ug{w:World}{base:Nat}{X:WD}{b c g k:Nat}(h:WI w base X b c)(hg:X.W.g=g)(hn:X.n=k): ∃sp cap,∀w',Below w.heap.size w w'->w'.cell? ⟨g,1,none⟩=some (.slice sp k cap):=by
 obtain⟨sp,cap,_,e,-⟩:=h.tl.at
 rw [List.length_map,List.length_range,hn]at e
 refine⟨sp,cap,fun w' q=>?_⟩
 have r:=h.wo.row
 have r2:=(q.block _ (aC r)).trans r
 rw [hg]at r2
 rw [cell_of_row _ _ _ _ _ _ r2]
 show some X.W.tl=_
 rw [e]
theorem CL{w:World}{g:Nat}{cs:Array Value}{t:TypeId}(h:w.heap[g]? =some (.cells cs t (0,0))){o n:Nat}(hs:o+n<=cs.size):w.there g o n:=fun j hj=>⟨by
 rw [cell_of_row _ _ _ _ _ _ h,Array.getElem?_eq_getElem (by omega)];rfl,frozen_of_row _ _ _ _ _ h⟩
theorem zQ{w:World}{g:Nat}{E N:Int}{md:Bool}{rv:Value}{s:aD}{t1 t2 t3 t4 t5 c0 c1 c2 c3:Int}(h:w.heap[g]? =some (.cells (aN E N md rv s t1 t2 t3 t4 t5 c0 c1 c2 c3) 46 (0,0))):w.rangeAt g 9 [.int .i64 t1, .int .i64 t2, .int .i64 t3, .int .i64 t4, .int .i64 t5]:=fun j v hv=>by
 rw [cell_of_row _ _ _ _ _ _ h]
 rcases j with _| _| _| _| _| j
 all_goals first| exact hv| (simp at hv)
theorem EJ{E N E' N':Int}{md md':Bool}{rz MZ:List Int}{s s':aD}{c1 c2 c3 d1 d2 d3:Int}{R:PB}(h:(⟨E,N,md,rz,s,c1,c2,c3⟩:PB)=R)(k:(⟨E',N',md',MZ,s',d1,d2,d3⟩:PB)=R):E=E'/\N=N'/\md=md'/\rz=MZ/\s=s'/\c1=d1/\c2=d2/\c3=d3:=by
 rw [<-h]at k
 injection k with a1 a2 a3 a4 a5 a6 a7 a8
 exact⟨a1.symm,a2.symm,a3.symm,a4.symm,a5.symm,a6.symm,a7.symm,a8.symm⟩
def CM(w:World)(p:Nat)(I:List Int)(N:Nat):Prop:=Calls Tryz.prog 10 #[.pointer (some ⟨p,0,none⟩)] w fun e w'=> ∃sp cap,e= .returned (.slice sp N cap)/\Src w' sp cap I/\Below w.heap.size w w'
theorem CN{w:World}{base:Nat}{X:WD}{b c:Nat}(h:WI w base X b c): ∃q k,(∀w',Below w.heap.size w w'->w'.cell? ⟨X.W.g,0,none⟩=some (.slice (some ⟨q,0,none⟩) 2 k)/\w'.cell? ⟨q,0,none⟩=some (.pointer (some ⟨X.pd 0,0,none⟩))/\w'.cell? ⟨q,1,none⟩=some (.pointer (some ⟨X.pd 1,0,none⟩)))/\(2:Nat)<=k/\ ∀w',Below w.heap.size w w'-> ∀i,i<2->CM w' (X.pd i) (X.Dd i).af (X.Dd i).af.length:=by
 obtain⟨sd,mJ,gd,iC,CB,MW,Jy,hdv⟩:=h.dl.at
 obtain⟨rfl,hgd⟩:=Jy (Nat.zero_lt_succ _)
 have hlt: ∀{k:Nat},k∈X.fp->k<w.heap.size:=fun hk=>(h.lt hk).2
 refine⟨gd,mJ,fun w' q=>⟨?_,?_,?_⟩,?_,fun w' q i hi=>?_⟩
 · refine(q.cell (p:=⟨X.W.g,0,none⟩) (aC h.wo.row)).trans ?_
   rw [cell_of_row _ _ _ _ _ _ h.wo.row]
   show some X.W.dl=_
   rw [iC];rfl
 · exact(q.cell (p:=⟨gd,0,none⟩) (hlt ((X.mem _).2 (Or.inr (Or.inl hgd))))).trans (hdv 0 (by simp))
 · exact(q.cell (p:=⟨gd,1,none⟩) (hlt ((X.mem _).2 (Or.inr (Or.inl hgd))))).trans (hdv 1 (by simp))
 · have:([.pointer (some ⟨X.pd 0,0,none⟩), .pointer (some ⟨X.pd 1,0,none⟩)]:List Value).length<=mJ:=CB
   exact this
 · refine(ze w' base _ _ _ ((h.below q).dk i hi)).mono ?_
   rintro e w2 ⟨v,rfl,hO,hb⟩
   obtain⟨a,k,rfl,hs,-⟩:=hO.form
   exact⟨a,k,rfl,hs,hb⟩
theorem LR.ends{w wr:World}{base g1 g2 n m:Nat}(h:LR w wr base g1 g2 n m): ∃q1 k1 a0 a1 q2 k2 b0 b1 n0 n1 I0 I1,n0=256*n∧
   (∀w',Below wr.heap.size wr w'->w'.cell? ⟨g1,0,none⟩=some (.slice (some ⟨q1,0,none⟩) 2 k1)/\w'.cell? ⟨q1,0,none⟩=some (.pointer (some ⟨a0,0,none⟩))/\w'.cell? ⟨q1,1,none⟩=some (.pointer (some ⟨a1,0,none⟩)))∧
   (∀w',Below wr.heap.size wr w'->w'.cell? ⟨g2,0,none⟩=some (.slice (some ⟨q2,0,none⟩) 2 k2)/\w'.cell? ⟨q2,0,none⟩=some (.pointer (some ⟨b0,0,none⟩))/\w'.cell? ⟨q2,1,none⟩=some (.pointer (some ⟨b1,0,none⟩)))∧
   (∀w',Below wr.heap.size wr w'->CM w' a0 I0 n0/\CM w' a1 I1 n1/\CM w' b0 I0 n0/\CM w' b1 I1 n1)∧
   (∀(w':World) sp tp cap uP,Src w' sp cap I0->Src w' tp uP I0->Calls Tryz.prog 9 #[.slice sp n0 cap, .slice tp n0 uP] w' fun e w''=>e= .returned (.bool true)/\Below w'.heap.size w' w'')∧
   (∀(w':World) sp tp cap uP,Src w' sp cap I1->Src w' tp uP I1->Calls Tryz.prog 9 #[.slice sp n1 cap, .slice tp n1 uP] w' fun e w''=>e= .returned (.bool true)/\Below w'.heap.size w' w'')/\2<=k1/\2<=k2/\Below base w wr:=by
 obtain⟨X,Y,P,hX,hY,gX,gY,vX,vY,ap,gI,hB⟩:=h
 obtain⟨q1,k1,c1,m1,i1⟩:=CN hX
 obtain⟨q2,k2,c2,m2,i2⟩:=CN hY
 have e0:(er (Y.Dd 0)).af=(er (X.Dd 0)).af:=congrArg (fun D:DS=>D.af) ((vY.1 0 (by decide)).trans (vX.1 0 (by decide)).symm)
 have e1:(er (Y.Dd 1)).af=(er (X.Dd 1)).af:=congrArg (fun D:DS=>D.af) ((vY.1 1 (by decide)).trans (vX.1 1 (by decide)).symm)
 replace e0:(Y.Dd 0).af=(X.Dd 0).af:=e0
 replace e1:(Y.Dd 1).af=(X.Dd 1).af:=e1
 obtain⟨N,_,_,hN,_⟩:=(hX.dk 0 (by decide)).ok.n
 have hn:N=n:=by
   rw [<-gI]
   show N=(X.Dd 0).af.length/256
   omega
 have sm: ∀(I:List Int) (w':World) (sp tp:Option Addr) (cap uP:Nat),Src w' sp cap I->Src w' tp uP I->Calls Tryz.prog 9 #[.slice sp I.length cap, .slice tp I.length uP] w' fun e w''=>e= .returned (.bool true)/\Below w'.heap.size w' w'':=fun I w' sp tp cap uP h1 h2=>by
   have z:=kg w' I I sp tp cap uP h1 h2
   rwa [show decide (I=I)=true by simp]at z
 refine⟨q1,k1,X.pd 0,X.pd 1,q2,k2,Y.pd 0,Y.pd 1,(X.Dd 0).af.length,(X.Dd 1).af.length,(X.Dd 0).af,(X.Dd 1).af,by rw [hN,hn],gX▸c1,gY▸c2,fun w' q=>⟨i1 w' q 0 (by decide),i1 w' q 1 (by decide),?_,?_⟩,sm _,sm _,m1,m2,hB⟩
 · have z:=i2 w' q 0 (by decide)
   rwa [e0]at z
 · have z:=i2 w' q 1 (by decide)
   rwa [e1]at z
end Go.Proofs.YtpdakmhnnkaafaaGreat

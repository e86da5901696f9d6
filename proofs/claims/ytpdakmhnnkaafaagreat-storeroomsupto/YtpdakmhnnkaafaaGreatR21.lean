import Derived.Test.YtpdakmhnnkaafaaGreatR20
namespace Go.Proofs.YtpdakmhnnkaafaaGreat
set_option maxRecDepth 100000
set_option maxHeartbeats 40000000
set_option linter.unusedVariables false
set_option linter.unusedSimpArgs false
open Go.RowKit
open Go.Proofs.YtpdakmhnnkaafaaGreat.Ca (Ct ct0 av bV AS)
attribute [local go_sem ↓] Go.wp_at_zero Go.wp_at_succ
theorem Ew{w w2 w3:World}{base:Nat}{S S':au}{c:Nat}{W:Wr}{oc:Array Value}(h:SK w base S)(hW:WO w base W c)(hr:gK W S)(hP:Pn w w2 oc)(hO:cH w2 base S S' w3):WO w3 base W c/\base<=w3.heap.size/\gK W S'/\w2.heap.size<=w3.heap.size:=by
 obtain⟨_,hb,hf,hg⟩:=hO
 have cX:=h.base
 have hsz:=hP.sz
 have hz3:=hf.size
 refine⟨hW.keep fun k hk=>?_,by omega,fun k e q=>?_,hz3⟩
 · have l:=(hW.ty hk).2.1
   exact(hf.block k (by omega) (hW.off h hr hk)).trans (hP.bl.block k l)
 · rcases hg k q with z| z
   · exact hr k e z
   · have:=(hW.ty ((W.mem k).2 (by simp [e]))).2.1;omega
theorem WO.below{w w1:World}{base:Nat}{W:Wr}{c:Nat}(h:WO w base W c)(hb:Below w.heap.size w w1):WO w1 base W c:=h.keep fun k hk=>hb.block k (h.ty hk).2.1
theorem WO.cells{w:World}{base:Nat}{W:Wr}{c:Nat}(h:WO w base W c):w.cell? ⟨W.g,2,none⟩=some (.pointer (some ⟨W.B,0,none⟩))/\w.cell? ⟨W.g,3,none⟩=some W.sl/\w.cell? ⟨W.g,4,none⟩=some W.wl/\w.cell? ⟨W.g,5,none⟩=some (.int .i64 W.turn)/\w.cell? ⟨W.g,6,none⟩=some W.room/\(∀j,w.frozen? ⟨W.g,j,none⟩=false):=by
 refine⟨?_,?_,?_,?_,?_,fun j=>frozen_of_row _ _ _ _ _ h.row⟩<;>(rw [cell_of_row _ _ _ _ _ _ h.row];rfl)
theorem WO.QB{w w':World}{base:Nat}{W:Wr}{c:Nat}(h:WO w base W c)(u x2 x3 x4 tz tA tB uK:Value)(hu: ∀k,u.ownBlock=some k->k∉W.fp)(MP:Bo.PB w' base W.B tz tA tB uK (W.L1++ [u]) (W.L2++ [x2]) (W.L3++ [x3]) (W.L4++ [x4]))(b1:Bo.At w W.v1 tz)(b2:Bo.At w W.v2 tA)(b3:Bo.At w W.v3 tB)(b4:Bo.At w W.v4 uK)
   (nE: ∀k,k<w.heap.size->u.ownBlock≠some k->k≠W.B->W.v1.ownBlock≠some k->W.v2.ownBlock≠some k->W.v3.ownBlock≠some k->W.v4.ownBlock≠some k->w'.heap[k]? =w.heap[k]?) (hc:W.L1.length+1<=c):WO w' base {W with v1:=tz,v2:=tA,v3:=tB,v4:=uK,L1:=W.L1++ [u],L2:=W.L2++ [x2],L3:=W.L3++ [x3],L4:=W.L4++ [x4]} c:=by
 obtain⟨n1,n2,n3⟩:=h.vh
 have un: ∀k,k∈W.fp->u.ownBlock≠some k:=fun k hk e=>hu k e hk
 have kS: ∀{y:Value} {us:List Value},Bo.cw w base y us->(∀k,y.ownBlock=some k->k∈W.fp)->Bo.Dj y W.v1->Bo.Dj y W.v2->Bo.Dj y W.v3->Bo.Dj y W.v4->Bo.cw w' base y us:=fun hy hm d1 d2 d3 d4=>hy.of_heap fun k e=>nE k (hy.heap k e).2.1 (un k (hm k e)) (fun q=>Bo.jl hy h.pb.bk (q▸e)) (fun q=>d1 k e q) (fun q=>d2 k e q) (fun q=>d3 k e q) (fun q=>d4 k e q)
 refine⟨h.hg,(nE W.g (aC h.row) (un _ ((W.mem _).2 (by simp))) (fun q=>n1 q.symm) (n2 h.pb.o1) (n2 h.pb.o2) (n2 h.pb.o3) (n2 h.pb.o4)).trans h.row,MP,kS h.st (fun k e=>(W.mem k).2 (by simp [e])) h.ds1 h.ds2 h.ds3 h.ds4,kS h.wt (fun k e=>(W.mem k).2 (by simp [e])) h.dw1 h.dw2 h.dw3 h.dw4,h.dsw,(Bo.gJ.push h.st h.ds1.symm b1).symm,(Bo.gJ.push h.st h.ds2.symm b2).symm,(Bo.gJ.push h.st h.ds3.symm b3).symm,(Bo.gJ.push h.st h.ds4.symm b4).symm,(Bo.gJ.push h.wt h.dw1.symm b1).symm,(Bo.gJ.push h.wt h.dw2.symm b2).symm,(Bo.gJ.push h.wt h.dw3.symm b3).symm,(Bo.gJ.push h.wt h.dw4.symm b4).symm,h.rm.of_heap fun k e=>?_,h.rz,by rw [List.length_append];exact hc,by simp [h.l2],by simp [h.l3],by simp [h.l4],h.ls,h.lw,h.tu⟩
 obtain⟨_,cs,hx⟩:=aH h.rm _ e
 have nS: ∀{y:Value} {us:List Value},Bo.cw w base y us->y.ownBlock≠some k:=fun hy q=>by
   obtain⟨_,_,z,hz⟩:=hy.heap _ q
   exact Bo.dU hz hx (by decide) rfl
 exact nE k (aC hx) (un k ((W.mem k).2 (by simp [e]))) (Bo.dU hx h.pb.bk (by decide)) (nS h.pb.o1) (nS h.pb.o2) (nS h.pb.o3) (nS h.pb.o4)
theorem qR{w5:World}{W W':Wr}(n:Nat)(hg:W'.g=W.g)(hB:W'.B=W.B)(h1:Bo.At w5 W.v1 W'.v1)(h2:Bo.At w5 W.v2 W'.v2)(h3:Bo.At w5 W.v3 W'.v3)(h4:Bo.At w5 W.v4 W'.v4)(h5:Bo.At w5 W.sl W'.sl)(h6:Bo.At w5 W.wl W'.wl)(h7:W'.room.ownBlock=W.room.ownBlock\/ ∃k,W'.room.ownBlock=some k/\n<=k)(hn:n<=w5.heap.size): ∀k∈W'.fp,k∈W.fp\/n<=k:=by
 intro k hk
 have one: ∀{v v':Value},Bo.At w5 v v'->v'.ownBlock=some k->v.ownBlock=some k\/n<=k:=fun ha e=>by
   rcases ha with q| ⟨k2,q,l⟩
   · exact Or.inl (q▸e)
   · rw [q]at e;injection e with e;exact Or.inr (by omega)
 rcases(W'.mem k).1 hk with e| e| e| e| e| e| e| e| e
 · exact Or.inl ((W.mem k).2 (Or.inl (e.trans hg)))
 · exact Or.inl ((W.mem k).2 (Or.inr (Or.inl (e.trans hB))))
 · exact(one h1 e).imp (fun z=>(W.mem k).2 (by simp [z])) id
 · exact(one h2 e).imp (fun z=>(W.mem k).2 (by simp [z])) id
 · exact(one h3 e).imp (fun z=>(W.mem k).2 (by simp [z])) id
 · exact(one h4 e).imp (fun z=>(W.mem k).2 (by simp [z])) id
 · exact(one h5 e).imp (fun z=>(W.mem k).2 (by simp [z])) id
 · exact(one h6 e).imp (fun z=>(W.mem k).2 (by simp [z])) id
 · rcases h7 with q| ⟨k2,q,l⟩
   · exact Or.inl ((W.mem k).2 (by simp [q▸e]))
   · rw [q]at e;injection e with e;exact Or.inr (by omega)
theorem Lk(w:World)(base:Nat)(S:au)(b:Nat)(h:SK w base S)(G:Gd S b)(hb:b<=1000000000)(W:Wr)(c:Nat)(hW:WO w base W c)(hr:gK W S)(hc:c<=1000000000)(at_ nn m_:Int)(zr:List Int)(sp:Option Addr)(l cap bt:Nat):
   Calls Tryz.prog 24 #[.pointer (some ⟨W.g,0,none⟩), .pointer (some ⟨S.st,0,none⟩), .agg (aK 2 at_ nn m_ (.slice sp l cap) bt)] w (iZ w base S 2 nn zr W c):=by
 obtain⟨w2,hw2⟩: ∃w2,w2=(w.alloc (.cells (aK 2 at_ nn m_ (.slice sp l cap) bt) 38)).alloc (.cells #[.int .i64 0, .int .i64 0, .bool false, .slice none 0 0, .int .i64 0, .int .i64 0, .int .i64 0, .int .i64 0, .int .i64 0, .int .i64 0, .int .i64 0, .int .i64 0, .int .i64 0, .int .i64 0, .int .i64 0, .int .i64 0, .int .i64 0, .int .i64 0] 46):=⟨_,rfl⟩
 have HW2:=aa hw2
 have hP:Pn w w2 (aK 2 at_ nn m_ (.slice sp l cap) bt):=by rw [hw2];exact Pn.mk' w _
 have k0:w2.cell? ⟨w.heap.size,0,none⟩=some (.int .i64 2):=by rw [cell_of_row _ _ _ _ _ _ hP.op];rfl
 have k2:w2.cell? ⟨w.heap.size,2,none⟩=some (.int .i64 nn):=by rw [cell_of_row _ _ _ _ _ _ hP.op];rfl
 have h2:=h.below hP.bl
 have HC:=aa (Le w2 base S b h2 G (by omega) nn)
 have HM:=aa (fun(S':au) (w3:World) (hO:cH w2 base S S' w3)=>Ew h hW hr hP hO)
 have HF2:=aa (fun(S':au) (w3 w6:World) (hO:cH w2 base S S' w3) (u:Value) (W':Wr) (hW':WO w6 base W' (c+1)) (hb6:Below base w3 w6) (fr: ∀k,k<w3.heap.size->k∉W.fp->u.ownBlock≠some k->w6.heap[k]? =w3.heap[k]?) (hu: ∀k,u.ownBlock=some k->w2.heap.size<=k/\k∉S'.fp) (fL:W'.room=W.room) (cs:Array Value)=>Lj h hW hr hP hO u hW' hb6 fr hu (fun k e=>⟨(Ew h hW hr hP hO).2.2.1 k (fL▸e),by have:=(hW.ty ((W.mem k).2 (by simp [<-fL,e]))).2.1;omega⟩) cs)
 have hsw:=hP.sz
 have fw:=aa h.base
 have xA:=aa hW.tu
 have oC:=aa (And.intro hW.l1 (And.intro hW.ls hW.lw))
 have mv:=aa (fun k hk=>(hW.ty (k:=k) hk).2.1)
 clear h h2 hW hr hP G
 rw [hw2]at k0 k2
 clear hw2
 go_enter Tryz.func24,Tryz.ntmps24
 go_wp2_with (first
   | refine cQ rfl (.tmp 2) rfl _ at_ nn m_ sp l cap bt rfl ?_)
 rw [<-HW2.out]
 refine HC.out.mono ?_
 rintro e w3 ⟨S',qf,u,E,zs,rfl,QC,hz,Tv,Tw,hO⟩
 have Tx:=aa Tw
 clear Tw
 obtain⟨hW3,hb3,hr3,hs3⟩:=HM.out _ _ hO
 obtain⟨su,cu,rfl,hsrc,_⟩:=QC.form
 have HO:=aa hO
 have Wd:=aa (fun k (q:k∈S'.fp)=>(hO.1.cF q).2)
 have Ty:=aa QC
 have HX:=aa Tv
 have iD:=aa (eZ w3 zs su cu hsrc (by omega) zs.length (by omega))
 have HW3:=aa hW3
 have HB3:=aa hb3
 have HZ:=aa hz
 have HS3:=aa hs3
 have fZ:=aa hsw
 clear hO QC Tv hsrc hW3 hb3 hr3 hz hs3 hsw HC HM k0 k2
 go_wp2_with fail
 refine iD.out.mono ?_
 rintro e w4 ⟨v4,rfl,hO4,hb4⟩
 rw [List.take_length]at hO4
 obtain⟨sr,cr,rfl,_,_⟩:=hO4.form
 have HR4:=aa hO4
 have hW4:=HW3.out.below hb4
 obtain⟨_,_,_,c5,_,f5⟩:=hW4.cells
 have Ji:=f5 5
 clear f5
 have hW5:=hW4.turned
 have HB4:=aa hb4
 have HW5:=aa hW5
 obtain⟨d2,d3,d4,d5,d6,df⟩:=hW5.cells
 have df3:=df 3
 have df4:=df 4
 clear df
 have Ev:(W.turn:Int)<=1000000000:=by have:=xA.out;omega
 have hti0:(0:Int)<=(W.turn:Int):=by omega
 have hd5:(w4.setCell ⟨W.g,5,none⟩ (.int .i64 ((W.turn:Int)+1))).cell? ⟨W.g,5,none⟩=some (.int .i64 ((W.turn:Int)+1)):=d5
 have Jj:Hid (∀k,(Value.slice su zs.length cu).ownBlock=some k->w2.heap.size<=k/\k<w3.heap.size):=aa (fun k e=>by
   obtain⟨q1,cs,q2⟩:=aH Ty.out k e
   exact⟨q1,aC q2⟩)
 have HU5:Hid (Own (w4.setCell ⟨W.g,5,none⟩ (.int .i64 ((W.turn:Int)+1))) base (.slice su zs.length cu) zs):=aa (Own.base (Ty.out.of_heap fun k e=>by
   obtain⟨q1,q2⟩:=Jj.out k e
   have q3:W.g<w.heap.size:=mv.out W.g ((W.mem _).2 (by simp))
   have q4:=fZ.out
   exact(heap_setCell_other w4 ⟨W.g,5,none⟩ k _ (show k≠W.g by omega)).trans (HB4.out.block k q2)) (by have:=fw.out;have:=fZ.out;omega))
 have HF5:Hid (∀k,k<w3.heap.size->k≠W.g->(w4.setCell ⟨W.g,5,none⟩ (.int .i64 ((W.turn:Int)+1))).heap[k]? =w3.heap[k]?):=aa (fun k a q=>(heap_setCell_other w4 ⟨W.g,5,none⟩ k _ q).trans (HB4.out.block k a))
 have HB5:Hid (Below base w3 (w4.setCell ⟨W.g,5,none⟩ (.int .i64 ((W.turn:Int)+1)))):=aa ((HB4.out.mono HB3.out).setCell HW3.out.hg _)
 have HS5:Hid (w3.heap.size<=(w4.setCell ⟨W.g,5,none⟩ (.int .i64 ((W.turn:Int)+1))).heap.size):=aa HB5.out.size
 have Tz:Hid (∀k,(Value.slice sr zs.length cr).ownBlock=some k->w3.heap.size<=k/\k<w4.heap.size):=aa (fun k e=>by
   obtain⟨q1,cs,q2⟩:=aH HR4.out k e
   exact⟨q1,aC q2⟩)
 have Mv:Hid (∀(wX:World) (W':Wr) (cs:Array Value),(∀k,w3.heap.size<=k->k<w4.heap.size->wX.heap[k]? =w4.heap[k]?)->(∀k∈W'.fp,k∈W.fp\/w4.heap.size<=k)->(Own (wX.setRow (w.heap.size+1) cs) w.heap.size (.slice sr zs.length cr) zs/\ ∀k,(Value.slice sr zs.length cr).ownBlock=some k->k∉S'.fp/\k∉W'.fp)):=aa (fun wX W' cs hk hw=>by
   have q4:=fZ.out
   have q5:=HS3.out
   refine⟨Own.base (HR4.out.of_heap fun k e=>?_) (by omega),fun k e=>?_⟩
   · obtain⟨q1,q2⟩:=Tz.out k e
     exact(setRow_other _ _ _ _ (by omega)).trans (hk k q1 q2)
   · obtain⟨q1,q2⟩:=Tz.out k e
     refine⟨fun z=>by have:=Wd.out k z;omega,fun z=>?_⟩
     rcases hw k z with y| y
     · have:=mv.out k y;omega
     · omega)
 have HS0:=aa (show cf.size=(cT E qf (.slice sr zs.length cr) sup0 0 0 0 0 0).size from rfl)
 have iO:=aa (oQ E qf sr zs.length cr sup0 0 0 0 0 0)
 have iP:=aa (ia E qf (.slice sr zs.length cr) sup0 0 0 0 0 0)
 clear d5 hO4 hb4 hW4 hW5 iD d6
 by_cases hq:(((W.turn:Int)+1)%3==0)=true
 · have QD:=aa (Bo.Lg _ base W.B W.v1 W.v2 W.v3 W.v4 W.L1 W.L2 W.L3 W.L4 HW5.out.pb (by have:=oC.out.1;omega) HW5.out.l2 HW5.out.l3 HW5.out.l4 (.slice su zs.length cu) zs.length zs HU5.out rfl (by have:=HZ.out;omega))
   clear d3 d4 df3 df4
   go_wp2_with fail
   refine QD.out.mono ?_
   rintro e w6 ⟨rfl,tz,tA,tB,uK,x2,x3,x4,MP,a2,a3,a4,b1,b2,b3,b4,nE,hbl⟩
   have Jk: ∀k,w3.heap.size<=k->k<w4.heap.size->w6.heap[k]? =w4.heap[k]? :=fun k l1 l2=>by
     have q3:=fZ.out
     have q5:=HS3.out
     have nW:k∉W.fp:=fun z=>by have:=mv.out k z;omega
     refine(nE k (by rw [World.size_setCell];exact l2) (fun e=>by have:=(Jj.out k e).2;omega) (fun e=>nW (by simp [Wr.mem,e])) (fun e=>nW (by simp [Wr.mem,e])) (fun e=>nW (by simp [Wr.mem,e])) (fun e=>nW (by simp [Wr.mem,e])) (fun e=>nW (by simp [Wr.mem,e]))).trans (heap_setCell_other w4 ⟨W.g,5,none⟩ k _ (fun e=>nW (by simp [Wr.mem,show k=W.g from e])))
   have Cb:=qR (w5:=w4.setCell ⟨W.g,5,none⟩ (.int .i64 ((W.turn:Int)+1))) (W:=W) (W':={W with turn:=W.turn+1,v1:=tz,v2:=tA,v3:=tB,v4:=uK,L1:=W.L1++ [.slice su zs.length cu],L2:=W.L2++ [x2],L3:=W.L3++ [x3],L4:=W.L4++ [x4]}) w4.heap.size rfl rfl b1 b2 b3 b4 (Or.inl rfl) (Or.inl rfl) (Or.inl rfl) (by rw [World.size_setCell];exact Nat.le_refl _)
   have Cc:=aa (And.intro (Mv.out w6 _ (cT E qf (.slice sr zs.length cr) sup0 0 0 0 0 0) Jk Cb) Cb)
   clear Jk Cb
   have TA:=HW5.out.QB (.slice su zs.length cu) x2 x3 x4 tz tA tB uK (fun k e q=>by
     have q1:=(Jj.out k e).1
     have q2:=mv.out k q
     have q3:=fZ.out
     omega) MP b1 b2 b3 b4 nE (by have:=oC.out.1;show W.L1.length+1<=c+1;omega)
   obtain⟨z1,z2,z3,z4,z5,TB,z6⟩:=HF2.out _ _ w6 HO.out (.slice su zs.length cu) _ TA (HB5.out.trans hbl) (fun k a q r=>by
     have hn:=mt (W.mem k).2 q
     refine(nE k (Nat.lt_of_lt_of_le a HS5.out) r (fun e=>hn (by simp [e])) (fun e=>hn (by simp [e])) (fun e=>hn (by simp [e])) (fun e=>hn (by simp [e])) (fun e=>hn (by simp [e]))).trans (HF5.out k a (fun e=>hn (by simp [e])))) (fun k e=>⟨(Jj.out k e).1,HX.out k e⟩) rfl (cT E qf (.slice sr zs.length cr) sup0 0 0 0 0 0)
   have H6:=aa z6
   have We:=aa (And.intro z1 (And.intro z2 (And.intro z3 (And.intro z4 (And.intro z5 TB)))))
   clear z1 z2 z3 z4 z5 TB z6 TA MP a2 a3 a4 b1 b2 b3 b4 nE hbl QD hd5 d2 c5 Ji
   go_wp2_with (first
     | refine rH rfl 0 1 3 (.tmp 82) (.tmp 83) (.tmp 84) rfl (.int .i64 E) (.int .i64 qf) (.slice sr zs.length cr) rfl rfl rfl (cT E qf (.slice sr zs.length cr) sup0 0 0 0 0 0) (Jd _ _ _ _ _) ?_
     | (refine wpList_store_row rfl 46 (.tmp 6) (.tmp 85) rfl (w.heap.size+1) (cT E qf (.slice sr zs.length cr) sup0 0 0 0 0 0) rfl rfl 46 cf H6.out iP.out HS0.out iO.out ?_)
     | fail)
   refine bodyPost_ret (bf Tryz.results24 _ _ (w.heap.size+1) 46 _ _ _ (by first| rfl| simp) (setRow_heap _ _ _ _ _ _ H6.out) Tryz.underlying46 rfl (ia _ _ _ _ _ _ _ _ _)) rfl ?_
   obtain⟨z1,z2,z3,z4,z5,z6⟩:=We.out
   exact⟨S',_,_,_,_,zs,_,_,_,_,_,_,rfl,Cc.out.1,Or.inl ⟨rfl,Tx.out,rfl,rfl⟩,z1,z2,z3,⟨rfl,rfl,rfl⟩,z4,z5,z6,fun k q=>(Cc.out.2 k q).imp id (fun z=>by have:=fZ.out;have:=HS3.out;have:=HB4.out.size;omega)⟩
 · have hq2:(((W.turn:Int)+1)%3==0)=false:=by simpa using hq
   clear hq
   have HK1:=aa (show W.Ss.length+ [Value.slice su zs.length cu].length<=5000000000000 by have:=oC.out.2.1;simp;omega)
   have HK2:=aa (show W.Ws.length+ [Value.slice sr zs.length cr].length<=5000000000000 by have:=oC.out.2.2;simp;omega)
   have Jl:=aa (show base<=(w4.setCell ⟨W.g,5,none⟩ (.int .i64 ((W.turn:Int)+1))).heap.size from Nat.le_trans HB3.out HS5.out)
   have HC1:=aa (show W.Ss.length+1<=c+1 by have:=oC.out.2.1;omega)
   have HC2:=aa (show W.Ws.length+1<=c+1 by have:=oC.out.2.2;omega)
   clear d2 d4 df4
   go_wp2_with (first
     | (at_builtin;refine Bo.iE rfl (.tmp 66) (.tmp 68) rfl base W.sl W.Ss [.slice su zs.length cu] rfl HW5.out.st (by rw [World.size_setCell];rfl) (by intro y hy;rw [List.mem_singleton.1 hy];rfl) HK1.out Jl.out _ _ ?_;intro v' w6 q1 q2 q3 q4;obtain⟨e1,P1,F1,G1⟩:=HW5.out.pushed3 _ v' q1 q2 q3 q4 HC1.out;obtain⟨sa,ca,bz,gZ,Jc⟩:=q1.at;have HA1:=aa q4;clear Jc q1 q2 q3 q4;have cc1:w6.cell? ⟨W.g,3,none⟩=some W.sl:=(by rw [cell_of_row _ _ _ _ _ _ e1];rfl);have ff1:w6.frozen? ⟨W.g,3,none⟩=false:=frozen_of_row _ _ _ _ _ e1;simp only [List.length_append,List.length_cons,List.length_nil,Nat.zero_add]at gZ;subst gZ;have dd4:=P1.cells.2.2.1;have HP1:=aa P1;have HF1:=aa F1;have HG1:=aa G1;clear P1 F1 G1 e1;have HKB2:=aa (show base<=(w6.setCell ⟨W.g,3,none⟩ (.slice sa (W.Ss.length+1) ca)).heap.size from Nat.le_trans Jl.out HF1.out.size))
     | (at_builtin;refine Bo.iE rfl (.tmp 76) (.tmp 78) rfl base W.wl W.Ws [.slice sr zs.length cr] rfl HP1.out.wt (by rw [World.size_setCell];rfl) (by intro y hy;rw [List.mem_singleton.1 hy];rfl) HK2.out HKB2.out _ _ ?_;intro v' w7 q1 q2 q3 q4;obtain⟨e2,P2,F2,G2⟩:=HP1.out.pushed4 _ v' q1 q2 q3 q4 HC2.out;obtain⟨sb,cb,bz2,gZ,Jc⟩:=q1.at;have HA2:=aa q4;clear Jc q1 q2 q3 q4;have cc2:w7.cell? ⟨W.g,4,none⟩=some W.wl:=(by rw [cell_of_row _ _ _ _ _ _ e2];rfl);have ff2:w7.frozen? ⟨W.g,4,none⟩=false:=frozen_of_row _ _ _ _ _ e2;simp only [List.length_append,List.length_cons,List.length_nil,Nat.zero_add]at gZ;subst gZ;clear e2;have eL:=aa (HF2.out _ _ _ HO.out (.slice su zs.length cu) _ P2 ((HB5.out.trans HF1.out).trans F2) (fun k a q r=>by
         have hn:=mt (W.mem k).2 q
         exact((G2 k (Nat.lt_of_lt_of_le (Nat.lt_of_lt_of_le a HS5.out) HF1.out.size) (fun e=>hn (by simp [show k=W.g from e])) (fun e=>hn (by simp [show W.wl.ownBlock=some k from e]))).trans (HG1.out k (Nat.lt_of_lt_of_le a HS5.out) (fun e=>hn (by simp [show k=W.g from e])) (fun e=>hn (by simp [show W.sl.ownBlock=some k from e])))).trans (HF5.out k a (fun e=>hn (by simp [e])))) (fun k e=>⟨(Jj.out k e).1,HX.out k e⟩) rfl (cT E qf (.slice sr zs.length cr) sup0 0 0 0 0 0));have Cb:=qR (w5:=w4.setCell ⟨W.g,5,none⟩ (.int .i64 ((W.turn:Int)+1))) (W:=W) (W':={W with turn:=W.turn+1,sl:= .slice sa (W.Ss.length+1) ca,Ss:=W.Ss++ [.slice su zs.length cu],wl:= .slice sb (W.Ws.length+1) cb,Ws:=W.Ws++ [.slice sr zs.length cr]}) w4.heap.size rfl rfl (Or.inl rfl) (Or.inl rfl) (Or.inl rfl) (Or.inl rfl) HA1.out (by
         rcases HA2.out with q| ⟨k2,q,l⟩
         · exact Or.inl q
         · exact Or.inr ⟨k2,q,Nat.le_trans HF1.out.size l⟩) (Or.inl rfl) (by rw [World.size_setCell];exact Nat.le_refl _);have Jk: ∀k,w3.heap.size<=k->k<w4.heap.size->(w7.setCell ⟨W.g,4,none⟩ (.slice sb (W.Ws.length+1) cb)).heap[k]? =w4.heap[k]? :=(fun k l1 l2=>by
         have q3:=fZ.out
         have q5:=HS3.out
         have nW:k∉W.fp:=fun z=>by have:=mv.out k z;omega
         have l5:k<(w4.setCell ⟨W.g,5,none⟩ (.int .i64 ((W.turn:Int)+1))).heap.size:=by rw [World.size_setCell];exact l2
         exact((G2 k (Nat.lt_of_lt_of_le l5 HF1.out.size) (fun e=>nW (by simp [Wr.mem,show k=W.g from e])) (fun e=>nW (by simp [Wr.mem,show W.wl.ownBlock=some k from e]))).trans (HG1.out k l5 (fun e=>nW (by simp [Wr.mem,show k=W.g from e])) (fun e=>nW (by simp [Wr.mem,show W.sl.ownBlock=some k from e])))).trans (heap_setCell_other w4 ⟨W.g,5,none⟩ k _ (fun e=>nW (by simp [Wr.mem,show k=W.g from e]))));have Cc:=aa (And.intro (Mv.out _ _ (cT E qf (.slice sr zs.length cr) sup0 0 0 0 0 0) Jk Cb) Cb);clear Jk Cb;clear P2 F2 G2;have H6:=aa eL.out.2.2.2.2.2.2)
     | refine rH rfl 0 1 3 (.tmp 82) (.tmp 83) (.tmp 84) rfl (.int .i64 E) (.int .i64 qf) (.slice sr zs.length cr) rfl rfl rfl (cT E qf (.slice sr zs.length cr) sup0 0 0 0 0 0) (Jd _ _ _ _ _) ?_
     | (refine wpList_store_row rfl 46 (.tmp 6) (.tmp 85) rfl (w.heap.size+1) (cT E qf (.slice sr zs.length cr) sup0 0 0 0 0 0) rfl rfl 46 cf H6.out iP.out HS0.out iO.out ?_)
     | fail)
   refine bodyPost_ret (bf Tryz.results24 _ _ (w.heap.size+1) 46 _ _ _ (by first| rfl| simp) (setRow_heap _ _ _ _ _ _ H6.out) Tryz.underlying46 rfl (ia _ _ _ _ _ _ _ _ _)) rfl ?_
   obtain⟨z1,z2,z3,z4,z5,z6,_⟩:=eL.out
   exact⟨S',_,_,_,_,zs,_,_,_,_,_,_,rfl,Cc.out.1,Or.inl ⟨rfl,Tx.out,rfl,rfl⟩,z1,z2,z3,⟨rfl,rfl,rfl⟩,z4,z5,z6,fun k q=>(Cc.out.2 k q).imp id (fun z=>by have:=fZ.out;have:=HS3.out;have:=HB4.out.size;omega)⟩
theorem qU(w:World)(zs:List Int)(sp:Option Addr)(cap:Nat)(hS:Src w sp cap zs)(m:Int)(n:Nat)(hn:n=zs.length)(hn1:n<=1000000)(hall: ∀j,j<n->zs.getD j 0=m):
   Calls Tryz.prog 48 #[.slice sp n cap, .int .u8 m, .int .i64 n] w fun e w'=>e= .returned (.bool true)/\Below w.heap.size w w':=by
 obtain⟨hc,hm,b,o,hb,hsp,hsrc⟩:=hS
 have i0:(n:Int)<=1000000:=by omega
 rw [<-hn]at hb hsp hsrc
 have HN:=aa hn
 clear hn
 go_enter Tryz.func48,Tryz.ntmps48
 go_wp2
 go_loopw [7] (fun i wr=> ∃k:Nat,k<=n/\i= .int .i64 k/\Below w.heap.size w wr) (fun i _=>n-(intOf i).toNat)
 case atStart=>exact⟨0,by omega,rfl,Below.refl _ _⟩
 case round=>
   obtain⟨k,hk,rfl,hB⟩:=hrel
   by_cases hkn:k<n
   · have i1:(k:Int)<(n:Int):=by omega
     obtain rfl:=hsp (by omega)
     have c1:=(hB.cell (p:=⟨b,o+k,none⟩) (hb (by omega))).trans (hsrc k hkn)
     rw [hall k hkn]at c1
     go_wp2
     go_roundw
     case rel=>exact⟨k+1,by omega,by go_num,hB⟩
     case measure=>simp [intOf];omega
   · obtain rfl:k=n:=by omega
     clear hkn
     go_wp2
     go_ret
     exact⟨rfl,hB⟩
theorem WO.QE{w w':World}{base:Nat}{W:Wr}{c:Nat}(h:WO w base W c)(zs:List Int)(hO:Own w' base W.room zs)(hz:zs= []\/zs.length=600)(hk: ∀k∈W.fp,W.room.ownBlock≠some k->w'.heap[k]? =w.heap[k]?):WO w' base {W with zr:=zs} c:=by
 have hne: ∀k,(k=W.g\/k=W.B\/W.v1.ownBlock=some k\/W.v2.ownBlock=some k\/W.v3.ownBlock=some k\/W.v4.ownBlock=some k\/W.sl.ownBlock=some k\/W.wl.ownBlock=some k)->W.room.ownBlock≠some k:=fun k q e=>by
   obtain⟨_,cs,hx⟩:=aH h.rm _ e
   have nS: ∀{y:Value} {us:List Value},Bo.cw w base y us->y.ownBlock≠some k:=fun hy q=>by
     obtain⟨_,_,z,hz⟩:=hy.heap _ q
     exact Bo.dU hz hx (by decide) rfl
   rcases q with q| q| q| q| q| q| q| q
   · exact h.vh.2.2 (q▸e)
   · exact Bo.dU hx h.pb.bk (by decide) q
   · exact nS h.pb.o1 q
   · exact nS h.pb.o2 q
   · exact nS h.pb.o3 q
   · exact nS h.pb.o4 q
   · exact nS h.st q
   · exact nS h.wt q
 have hm: ∀k,(k=W.g\/k=W.B\/W.v1.ownBlock=some k\/W.v2.ownBlock=some k\/W.v3.ownBlock=some k\/W.v4.ownBlock=some k\/W.sl.ownBlock=some k\/W.wl.ownBlock=some k)->w'.heap[k]? =w.heap[k]? :=fun k q=>hk k ((W.mem k).2 (by rcases q with q| q| q| q| q| q| q| q<;>simp [q])) (hne k q)
 exact⟨h.hg,(hm W.g (by simp)).trans h.row,⟨h.pb.hb,(hm W.B (by simp)).trans h.pb.bk,h.pb.o1.of_heap fun k e=>hm k (by simp [e]),h.pb.o2.of_heap fun k e=>hm k (by simp [e]),h.pb.o3.of_heap fun k e=>hm k (by simp [e]),h.pb.o4.of_heap fun k e=>hm k (by simp [e]),h.pb.d12,h.pb.d13,h.pb.d14,h.pb.d23,h.pb.d24,h.pb.d34⟩,h.st.of_heap fun k e=>hm k (by simp [e]),h.wt.of_heap fun k e=>hm k (by simp [e]),h.dsw,h.ds1,h.ds2,h.ds3,h.ds4,h.dw1,h.dw2,h.dw3,h.dw4,hO,hz,h.l1,h.l2,h.l3,h.l4,h.ls,h.lw,h.tu⟩
theorem WO.Jm{w w':World}{base:Nat}{W:Wr}{c:Nat}(h:WO w base W c)(v:Value)(zs:List Int)(hO:Own w' base v zs)(hz:zs.length=600)(hb:Below w.heap.size w w')(hv: ∀k,v.ownBlock=some k->w.heap.size<=k):w'.heap[W.g]? =some (.cells (kH W.dl W.tl W.B W.sl W.wl W.room W.turn) 33 (0,0))/\WO (w'.setCell ⟨W.g,6,none⟩ v) base {W with room:=v,zr:=zs} c:=by
 obtain⟨n1,n2,n3⟩:=h.vh
 have h':=h.below hb
 have hg:=aC h.row
 have kp: ∀k,k≠W.g->(w'.setCell ⟨W.g,6,none⟩ v).heap[k]? =w'.heap[k]? :=fun k e=>heap_setCell_other w' ⟨W.g,6,none⟩ k _ e
 have kS: ∀{u:Value} {us:List Value},Bo.cw w base u us->Bo.cw (w'.setCell ⟨W.g,6,none⟩ v) base u us:=fun hu=>hu.of_heap fun k e=>(kp k fun q=>n2 hu (q▸e)).trans (hb.block k (hu.heap k e).2.1)
 refine⟨h'.row,h.hg,?_,⟨h.pb.hb,(kp _ n1).trans h'.pb.bk,kS h.pb.o1,kS h.pb.o2,kS h.pb.o3,kS h.pb.o4,h.pb.d12,h.pb.d13,h.pb.d14,h.pb.d23,h.pb.d24,h.pb.d34⟩,kS h.st,kS h.wt,h.dsw,h.ds1,h.ds2,h.ds3,h.ds4,h.dw1,h.dw2,h.dw3,h.dw4,hO.of_heap fun k e=>kp k fun q=>by have:=hv k e;omega,Or.inr hz,h.l1,h.l2,h.l3,h.l4,h.ls,h.lw,h.tu⟩
 rw [heap_setCell_same _ _ _ _ _ _ h'.row]
 rfl
theorem qV{w w5 w6 w7:World}{base:Nat}{S S':au}{c:Nat}{W W1:Wr}(h:SK w base S)(f5: ∀k,k<w.heap.size->k∉W.fp->w5.heap[k]? =w.heap[k]?)(b5:Below base w w5)(hs5:w.heap.size+2<=w5.heap.size)(hO:cH w5 base S S' w6)(f7: ∀k,k∈S'.fp->w7.heap[k]? =w6.heap[k]?)(g7: ∀k,k<w.heap.size->k∉W.fp->w7.heap[k]? =w6.heap[k]?)(b7:Below base w6 w7)(hW7:WO w7 base W1 (c+1))(ha:w7.heap[w.heap.size+1]? =some (.cells cf 46 (0,0)))(fL: ∀k,W1.room.ownBlock=some k->k∉S'.fp/\k≠w.heap.size+1)(cs:Array Value):
   SK (w7.setRow (w.heap.size+1) cs) base S'/\WO (w7.setRow (w.heap.size+1) cs) base W1 (c+1)/\gK W1 S'/\Below base w (w7.setRow (w.heap.size+1) cs)/\Fr (S.fp++W.fp) w (w7.setRow (w.heap.size+1) cs)/\Gr w S.fp S'.fp:=by
 obtain⟨hS,hb,hf,hg⟩:=hO
 have cX:=h.base
 have z6:=hf.size
 have z7:=b7.size
 have ne1: ∀k∈S'.fp,k≠w.heap.size+1:=fun k hk=>by
   rcases hg k hk with q| q
   · have:=(h.cF q).2;omega
   · omega
 refine⟨hS.lh (fun k hk=>(setRow_other _ _ _ _ (ne1 k hk)).trans (f7 k hk)) (by rw [size_setRow];exact z7),hW7.keep fun k hk=>setRow_other _ _ _ _ fun q=>?_,fun k e=>(fL k e).1,?_,?_,fun k q=>(hg k q).imp id (fun z=>by omega)⟩
 · subst q
   obtain⟨_,_,⟨cs2,t,a1,a2⟩| e⟩:=hW7.ty hk
   · rw [ha]at a1
     injection a1 with a1
     injection a1 with _ a3 _
     rcases a2 with r| r| r<;>rw [r]at a3<;>exact absurd a3 (by decide)
   · exact(fL _ e).2 rfl
 · exact below_setRow ((b5.trans hb).trans b7) (by omega) cs
 · refine⟨b7.os.trans (hf.os.trans b5.os),b7.tape.trans (hf.tape.trans b5.tape),b7.output.trans (hf.output.trans b5.output),by rw [size_setRow];omega,fun k a q=>?_⟩
   have q1:k∉S.fp:=fun z=>q (List.mem_append_left _ z)
   have q2:k∉W.fp:=fun z=>q (List.mem_append_right _ z)
   exact(setRow_other _ _ _ _ (by omega)).trans ((g7 k a q2).trans ((hf.block k (by omega) q1).trans (f5 k a q2)))
theorem Al{zs:List Int}(h:aS zs)(j:Nat):0<=zs.getD j 0/\zs.getD j 0<256:=by
 by_cases q:j<zs.length
 · rw [List.getD_eq_getElem?_getD,List.getElem?_eq_getElem q];exact h _ (List.getElem_mem q)
 · rw [List.getD_eq_getElem?_getD,List.getElem?_eq_none (by omega)];exact⟨Int.le_refl _,by decide⟩
theorem ua(n:Nat):(dB [] n).length=n:=by simp [dB]
theorem qW(w1:World)(base g n:Nat)(hb:base<=g)(hn:n<=maxLen)(h:w1.heap[g]? =some (.cells (ints .u8 (dB [] n)).toArray 5 (0,0))):Own w1 base (.slice (some ⟨g,0,none⟩) n n) (dB [] n):=by
 refine⟨by simp [ints,dB],Or.inr ⟨g,n,(ints .u8 (dB [] n)).toArray,by simp [dB],hb,h,by simp [dB],hn,by simp [ints,dB],by simp [ints,dB]⟩⟩
def ja(zr:List Int)(j:Nat):List Int:=zr.take j++List.replicate (600-j) 250
theorem qX(zr:List Int)(j:Nat)(h:j<zr.length)(h6:j<600):(ja zr j).set j (zr.getD j 0)=ja zr (j+1):=by
 unfold ja
 have e1:(zr.take j).length=j:=by rw [List.length_take];omega
 rw [List.set_append_right _ _ (by omega),e1,Nat.sub_self,show 600-j=(600-(j+1))+1 by omega,List.replicate_succ,List.set_cons_zero,List.take_succ_eq_append_getElem h,List.append_assoc]
 rw [List.getD_eq_getElem?_getD,List.getElem?_eq_getElem h];rfl
theorem oT(zr:List Int)(j:Nat)(h:j<=zr.length):(ja zr j).take j=zr.take j:=by
 unfold ja
 rw [List.take_append_of_le_length (by rw [List.length_take];omega),List.take_take,Nat.min_self]
theorem oU(zr:List Int)(j:Nat)(h:j<=zr.length):(ja zr j).drop j=List.replicate (600-j) 250:=by
 unfold ja
 rw [List.drop_append_of_le_length (by rw [List.length_take];omega),List.drop_of_length_le (by rw [List.length_take];omega),List.nil_append]
theorem oV(zr:List Int):zr.take (zr.take 300).length=zr.take 300:=by
 rw [List.length_take]
 rcases Nat.le_total 300 zr.length with q| q
 · rw [Nat.min_eq_left q]
 · rw [Nat.min_eq_right q,List.take_of_length_le (Nat.le_refl _),List.take_of_length_le q]
end Go.Proofs.YtpdakmhnnkaafaaGreat

import Derived.Test.YtpdakmhnnkaafaaGreatR19
namespace Go.Proofs.YtpdakmhnnkaafaaGreat
set_option maxRecDepth 100000
set_option maxHeartbeats 40000000
set_option linter.unusedVariables false
set_option linter.unusedSimpArgs false
open Go.RowKit
open Go.Proofs.YtpdakmhnnkaafaaGreat.Ca (Ct ct0 av bV AS)
attribute [local go_sem ↓] Go.wp_at_zero Go.wp_at_succ
theorem bf{P:Program}{fn:Func}{p:Tmp}{ty:TypeId}(h:fn.results= #[.cell p ty])(tmps:Array Value)(w:World)(g:Nat)(t:TypeId)(cs:Array Value)(fr:Nat×Nat)(d:TypeDesc)
   (hp:tmps.getD p undef= .pointer (some ⟨g,0,none⟩)) (hg:w.heap[g]? =some (.cells cs t fr))
   (hu:P.underlying ty=some d) (hd:(match d with| .struct _| .array _ _=>true| _=>false)=true) (hi:(P.info? ty).map (·.size)=some cs.size):
   (results fn tmps).run P w= .ok (.agg cs) w:=by
 have si:tmps[p]?.getD undef= .pointer (some ⟨g,0,none⟩):=by simpa using hp
 simp [results,h,si,asAddr,run_loadVar_row w g t ty cs fr d hg hu hd hi]
theorem iY:(Tryz.prog.info? 42).map (·.size)=some 5:=by kernel_rfl
theorem Gg(w:World)(base:Nat)(S:au)(b:Nat)(h:SK w base S)(G:Gd S b)(hb:b<=1000000000)(W:Wr)(c:Nat)(hW:WO w base W c)(hr:gK W S)(at_ nn m_:Int)(zr:List Int)(sp:Option Addr)(l cap bt:Nat):
   Calls Tryz.prog 24 #[.pointer (some ⟨W.g,0,none⟩), .pointer (some ⟨S.st,0,none⟩), .agg (aK 4 at_ nn m_ (.slice sp l cap) bt)] w (iZ w base S 4 nn zr W c):=by
 obtain⟨w2,hw2⟩: ∃w2,w2=(w.alloc (.cells (aK 4 at_ nn m_ (.slice sp l cap) bt) 38)).alloc (.cells #[.int .i64 0, .int .i64 0, .bool false, .slice none 0 0, .int .i64 0, .int .i64 0, .int .i64 0, .int .i64 0, .int .i64 0, .int .i64 0, .int .i64 0, .int .i64 0, .int .i64 0, .int .i64 0, .int .i64 0, .int .i64 0, .int .i64 0, .int .i64 0] 46):=⟨_,rfl⟩
 have HW2:=aa hw2
 have hP:Pn w w2 (aK 4 at_ nn m_ (.slice sp l cap) bt):=by rw [hw2];exact Pn.mk' w _
 have k0:w2.cell? ⟨w.heap.size,0,none⟩=some (.int .i64 4):=by rw [cell_of_row _ _ _ _ _ _ hP.op];rfl
 have k2:w2.cell? ⟨w.heap.size,2,none⟩=some (.int .i64 nn):=by rw [cell_of_row _ _ _ _ _ _ hP.op];rfl
 have h2:=h.below hP.bl
 have HC:=aa (Ge w2 base S b h2 G (by omega) nn)
 have HF:=aa (fun(S':au) (w3:World) (hO:cH w2 base S S' w3) (cs:Array Value)=>kI h hW hr hP hO cs)
 have nK:=aa (fun(S':au) (w3:World) (hO:cH w2 base S S' w3)=>show w3.heap[w.heap.size+1]? =some (.cells cf 46 (0,0))from(hO.2.2.1.block _ (by have:=hP.sz;omega) (fun q=>by have:=(h.cF q).2;omega)).trans hP.an)
 clear h h2 hW hr hP G
 rw [hw2]at k0 k2
 clear hw2
 go_enter Tryz.func24,Tryz.ntmps24
 go_wp2_with (first
   | refine cQ rfl (.tmp 2) rfl _ at_ nn m_ sp l cap bt rfl ?_)
 rw [<-HW2.out]
 refine HC.out.mono ?_
 rintro e w3 ⟨S',E,rfl,hX,hO⟩
 have HX:=aa hX
 clear hX
 have HO:=aa hO
 have H3:=aa (nK.out _ _ hO)
 clear hO HC k0 k2
 have HS0:=aa (show cf.size=(cT E 0 (.slice none 0 0) sup0 0 0 0 0 0).size from rfl)
 have iO:=aa (oQ E 0 none 0 0 sup0 0 0 0 0 0)
 have iP:=aa (ia E 0 (.slice none 0 0) sup0 0 0 0 0 0)
 go_wp2_with (first| (refine wpList_store_row rfl 46 (.tmp 6) (.tmp 195) rfl (w.heap.size+1) (cT E 0 (.slice none 0 0) sup0 0 0 0 0 0) rfl rfl 46 cf H3.out iP.out HS0.out iO.out ?_)| fail)
 refine bodyPost_ret (bf Tryz.results24 _ _ (w.heap.size+1) 46 _ _ _ (by first| rfl| simp) (setRow_heap _ _ _ _ _ _ H3.out) Tryz.underlying46 rfl (ia _ _ _ _ _ _ _ _ _)) rfl ?_
 obtain⟨z1,z2,z3,z4,z5,z6⟩:=HF.out _ _ HO.out (cT E 0 (.slice none 0 0) sup0 0 0 0 0 0)
 exact⟨S',W,_,_, .slice none 0 0,[],_,_,_,_,_,_,rfl,⟨Own.nil _ _,fun k e=>by simp [Value.ownBlock]at e⟩,Or.inr (Or.inr (Or.inl ⟨rfl,HX.out,rfl,rfl,rfl,rfl⟩)),z1,z2,z3,⟨rfl,rfl,rfl⟩,z4,z5,z6,Gr.refl _ _⟩
theorem Je(w:World)(base:Nat)(S:au)(b:Nat)(h:SK w base S)(G:Gd S b)(hb:b<=1000000000)(W:Wr)(c:Nat)(hW:WO w base W c)(hr:gK W S)(at_ nn m_:Int)(zr:List Int)(sp:Option Addr)(l cap bt:Nat):
   Calls Tryz.prog 24 #[.pointer (some ⟨W.g,0,none⟩), .pointer (some ⟨S.st,0,none⟩), .agg (aK 5 at_ nn m_ (.slice sp l cap) bt)] w (iZ w base S 5 nn zr W c):=by
 obtain⟨w2,hw2⟩: ∃w2,w2=(w.alloc (.cells (aK 5 at_ nn m_ (.slice sp l cap) bt) 38)).alloc (.cells #[.int .i64 0, .int .i64 0, .bool false, .slice none 0 0, .int .i64 0, .int .i64 0, .int .i64 0, .int .i64 0, .int .i64 0, .int .i64 0, .int .i64 0, .int .i64 0, .int .i64 0, .int .i64 0, .int .i64 0, .int .i64 0, .int .i64 0, .int .i64 0] 46):=⟨_,rfl⟩
 have HW2:=aa hw2
 have hP:Pn w w2 (aK 5 at_ nn m_ (.slice sp l cap) bt):=by rw [hw2];exact Pn.mk' w _
 have k0:w2.cell? ⟨w.heap.size,0,none⟩=some (.int .i64 5):=by rw [cell_of_row _ _ _ _ _ _ hP.op];rfl
 have k2:w2.cell? ⟨w.heap.size,2,none⟩=some (.int .i64 nn):=by rw [cell_of_row _ _ _ _ _ _ hP.op];rfl
 have h2:=h.below hP.bl
 have HC:=aa (Jb w2 base S b h2 G hb nn)
 have HF:=aa (fun(S':au) (w3:World) (hO:cH w2 base S S' w3) (cs:Array Value)=>kI h hW hr hP hO cs)
 have nK:=aa (fun(S':au) (w3:World) (hO:cH w2 base S S' w3)=>show w3.heap[w.heap.size+1]? =some (.cells cf 46 (0,0))from(hO.2.2.1.block _ (by have:=hP.sz;omega) (fun q=>by have:=(h.cF q).2;omega)).trans hP.an)
 clear h h2 hW hr hP G
 rw [hw2]at k0 k2
 clear hw2
 go_enter Tryz.func24,Tryz.ntmps24
 go_wp2_with (first
   | refine cQ rfl (.tmp 2) rfl _ at_ nn m_ sp l cap bt rfl ?_)
 rw [<-HW2.out]
 refine HC.out.mono ?_
 rintro e w3 ⟨S',E,rfl,hX,hO⟩
 have HX:=aa hX
 clear hX
 have HO:=aa hO
 have H3:=aa (nK.out _ _ hO)
 clear hO HC k0 k2
 have HS0:=aa (show cf.size=(cT E 0 (.slice none 0 0) sup0 0 0 0 0 0).size from rfl)
 have iO:=aa (oQ E 0 none 0 0 sup0 0 0 0 0 0)
 have iP:=aa (ia E 0 (.slice none 0 0) sup0 0 0 0 0 0)
 go_wp2_with (first| (refine wpList_store_row rfl 46 (.tmp 6) (.tmp 203) rfl (w.heap.size+1) (cT E 0 (.slice none 0 0) sup0 0 0 0 0 0) rfl rfl 46 cf H3.out iP.out HS0.out iO.out ?_)| fail)
 refine bodyPost_ret (bf Tryz.results24 _ _ (w.heap.size+1) 46 _ _ _ (by first| rfl| simp) (setRow_heap _ _ _ _ _ _ H3.out) Tryz.underlying46 rfl (ia _ _ _ _ _ _ _ _ _)) rfl ?_
 obtain⟨z1,z2,z3,z4,z5,z6⟩:=HF.out _ _ HO.out (cT E 0 (.slice none 0 0) sup0 0 0 0 0 0)
 exact⟨S',W,_,_, .slice none 0 0,[],_,_,_,_,_,_,rfl,⟨Own.nil _ _,fun k e=>by simp [Value.ownBlock]at e⟩,Or.inr (Or.inr (Or.inr (Or.inl ⟨rfl,HX.out,rfl,rfl,rfl,rfl⟩))),z1,z2,z3,⟨rfl,rfl,rfl⟩,z4,z5,z6,Gr.refl _ _⟩
theorem Lh(w:World)(base:Nat)(S:au)(b:Nat)(h:SK w base S)(G:Gd S b)(hb:b<=1000000000)(W:Wr)(c:Nat)(hW:WO w base W c)(hr:gK W S)(at_ nn m_:Int)(zr:List Int)(sp:Option Addr)(l cap bt:Nat):
   Calls Tryz.prog 24 #[.pointer (some ⟨W.g,0,none⟩), .pointer (some ⟨S.st,0,none⟩), .agg (aK 6 at_ nn m_ (.slice sp l cap) bt)] w (iZ w base S 6 nn zr W c):=by
 obtain⟨w2,hw2⟩: ∃w2,w2=(w.alloc (.cells (aK 6 at_ nn m_ (.slice sp l cap) bt) 38)).alloc (.cells #[.int .i64 0, .int .i64 0, .bool false, .slice none 0 0, .int .i64 0, .int .i64 0, .int .i64 0, .int .i64 0, .int .i64 0, .int .i64 0, .int .i64 0, .int .i64 0, .int .i64 0, .int .i64 0, .int .i64 0, .int .i64 0, .int .i64 0, .int .i64 0] 46):=⟨_,rfl⟩
 have HW2:=aa hw2
 have hP:Pn w w2 (aK 6 at_ nn m_ (.slice sp l cap) bt):=by rw [hw2];exact Pn.mk' w _
 have k0:w2.cell? ⟨w.heap.size,0,none⟩=some (.int .i64 6):=by rw [cell_of_row _ _ _ _ _ _ hP.op];rfl
 have k2:w2.cell? ⟨w.heap.size,2,none⟩=some (.int .i64 nn):=by rw [cell_of_row _ _ _ _ _ _ hP.op];rfl
 have h2:=h.below hP.bl
 have HC:Hid (Calls Tryz.prog 35 #[.pointer (some ⟨S.st,0,none⟩)] w2 fun e w'=>e= .returned (.int .i64 (ak S.D S.ep))/\cH w2 base S S w'):=aa ((dn w2 base S h2).mono fun e w' ⟨he,hB⟩=>⟨he,cH.same h2 hB⟩)
 have HF:=aa (fun(S':au) (w3:World) (hO:cH w2 base S S' w3) (cs:Array Value)=>kI h hW hr hP hO cs)
 have nK:=aa (fun(S':au) (w3:World) (hO:cH w2 base S S' w3)=>show w3.heap[w.heap.size+1]? =some (.cells cf 46 (0,0))from(hO.2.2.1.block _ (by have:=hP.sz;omega) (fun q=>by have:=(h.cF q).2;omega)).trans hP.an)
 clear h h2 hW hr hP G
 rw [hw2]at k0 k2
 clear hw2
 go_enter Tryz.func24,Tryz.ntmps24
 go_wp2_with (first
   | refine cQ rfl (.tmp 2) rfl _ at_ nn m_ sp l cap bt rfl ?_)
 rw [<-HW2.out]
 refine HC.out.mono ?_
 rintro e w3 ⟨rfl,hO⟩
 have HO:=aa hO
 have H3:=aa (nK.out _ _ hO)
 clear hO HC k0 k2
 have HS0:=aa (show cf.size=(cT (ak S.D S.ep) 0 (.slice none 0 0) sup0 0 0 0 0 0).size from rfl)
 have iO:=aa (oQ (ak S.D S.ep) 0 none 0 0 sup0 0 0 0 0 0)
 have iP:=aa (ia (ak S.D S.ep) 0 (.slice none 0 0) sup0 0 0 0 0 0)
 go_wp2_with (first| (refine wpList_store_row rfl 46 (.tmp 6) (.tmp 209) rfl (w.heap.size+1) (cT (ak S.D S.ep) 0 (.slice none 0 0) sup0 0 0 0 0 0) rfl rfl 46 cf H3.out iP.out HS0.out iO.out ?_)| fail)
 refine bodyPost_ret (bf Tryz.results24 _ _ (w.heap.size+1) 46 _ _ _ (by first| rfl| simp) (setRow_heap _ _ _ _ _ _ H3.out) Tryz.underlying46 rfl (ia _ _ _ _ _ _ _ _ _)) rfl ?_
 obtain⟨z1,z2,z3,z4,z5,z6⟩:=HF.out _ _ HO.out (cT (ak S.D S.ep) 0 (.slice none 0 0) sup0 0 0 0 0 0)
 exact⟨S,W,_,_, .slice none 0 0,[],_,_,_,_,_,_,rfl,⟨Own.nil _ _,fun k e=>by simp [Value.ownBlock]at e⟩,Or.inr (Or.inr (Or.inr (Or.inr ⟨⟨by decide,by decide⟩,rfl,rfl,rfl,rfl,rfl,rfl⟩))),z1,z2,z3,⟨rfl,rfl,rfl⟩,z4,z5,z6,Gr.refl _ _⟩
theorem Li(w:World)(base:Nat)(S:au)(b:Nat)(h:SK w base S)(G:Gd S b)(hb:b<=1000000000)(W:Wr)(c:Nat)(hW:WO w base W c)(hr:gK W S)(at_ nn m_:Int)(zr:List Int)(sp:Option Addr)(l cap bt:Nat):
   Calls Tryz.prog 24 #[.pointer (some ⟨W.g,0,none⟩), .pointer (some ⟨S.st,0,none⟩), .agg (aK 8 at_ nn m_ (.slice sp l cap) bt)] w (iZ w base S 8 nn zr W c):=by
 obtain⟨w2,hw2⟩: ∃w2,w2=(w.alloc (.cells (aK 8 at_ nn m_ (.slice sp l cap) bt) 38)).alloc (.cells #[.int .i64 0, .int .i64 0, .bool false, .slice none 0 0, .int .i64 0, .int .i64 0, .int .i64 0, .int .i64 0, .int .i64 0, .int .i64 0, .int .i64 0, .int .i64 0, .int .i64 0, .int .i64 0, .int .i64 0, .int .i64 0, .int .i64 0, .int .i64 0] 46):=⟨_,rfl⟩
 have HW2:=aa hw2
 have hP:Pn w w2 (aK 8 at_ nn m_ (.slice sp l cap) bt):=by rw [hw2];exact Pn.mk' w _
 have k0:w2.cell? ⟨w.heap.size,0,none⟩=some (.int .i64 8):=by rw [cell_of_row _ _ _ _ _ _ hP.op];rfl
 have k2:w2.cell? ⟨w.heap.size,2,none⟩=some (.int .i64 nn):=by rw [cell_of_row _ _ _ _ _ _ hP.op];rfl
 have h2:=h.below hP.bl
 have HC:Hid (Calls Tryz.prog 36 #[.pointer (some ⟨S.st,0,none⟩)] w2 fun e w'=>e= .returned (.int .i64 (S.s.ma+S.aB.length))/\cH w2 base S S w'):=aa ((kD w2 base S h2 (by have:=G.bd;omega) ⟨by have:=G.bd;omega,by have:=G.bd;omega⟩).mono fun e w' ⟨he,hB⟩=>⟨he,cH.same h2 hB⟩)
 have HF:=aa (fun(S':au) (w3:World) (hO:cH w2 base S S' w3) (cs:Array Value)=>kI h hW hr hP hO cs)
 have nK:=aa (fun(S':au) (w3:World) (hO:cH w2 base S S' w3)=>show w3.heap[w.heap.size+1]? =some (.cells cf 46 (0,0))from(hO.2.2.1.block _ (by have:=hP.sz;omega) (fun q=>by have:=(h.cF q).2;omega)).trans hP.an)
 clear h h2 hW hr hP G
 rw [hw2]at k0 k2
 clear hw2
 go_enter Tryz.func24,Tryz.ntmps24
 go_wp2_with (first
   | refine cQ rfl (.tmp 2) rfl _ at_ nn m_ sp l cap bt rfl ?_)
 rw [<-HW2.out]
 refine HC.out.mono ?_
 rintro e w3 ⟨rfl,hO⟩
 have HO:=aa hO
 have H3:=aa (nK.out _ _ hO)
 clear hO HC k0 k2
 have HS0:=aa (show cf.size=(cT 0 (S.s.ma+S.aB.length) (.slice none 0 0) sup0 0 0 0 0 0).size from rfl)
 have iO:=aa (oQ 0 (S.s.ma+S.aB.length) none 0 0 sup0 0 0 0 0 0)
 have iP:=aa (ia 0 (S.s.ma+S.aB.length) (.slice none 0 0) sup0 0 0 0 0 0)
 go_wp2_with (first| (refine wpList_store_row rfl 46 (.tmp 6) (.tmp 221) rfl (w.heap.size+1) (cT 0 (S.s.ma+S.aB.length) (.slice none 0 0) sup0 0 0 0 0 0) rfl rfl 46 cf H3.out iP.out HS0.out iO.out ?_)| fail)
 refine bodyPost_ret (bf Tryz.results24 _ _ (w.heap.size+1) 46 _ _ _ (by first| rfl| simp) (setRow_heap _ _ _ _ _ _ H3.out) Tryz.underlying46 rfl (ia _ _ _ _ _ _ _ _ _)) rfl ?_
 obtain⟨z1,z2,z3,z4,z5,z6⟩:=HF.out _ _ HO.out (cT 0 (S.s.ma+S.aB.length) (.slice none 0 0) sup0 0 0 0 0 0)
 exact⟨S,W,_,_, .slice none 0 0,[],_,_,_,_,_,_,rfl,⟨Own.nil _ _,fun k e=>by simp [Value.ownBlock]at e⟩,Or.inr (Or.inr (Or.inr (Or.inr ⟨⟨by decide,by decide⟩,rfl,rfl,rfl,rfl,rfl,rfl⟩))),z1,z2,z3,⟨rfl,rfl,rfl⟩,z4,z5,z6,Gr.refl _ _⟩
theorem Gh(w:World)(base:Nat)(S:au)(b:Nat)(h:SK w base S)(G:Gd S b)(hb:b<=1000000000)(W:Wr)(c:Nat)(hW:WO w base W c)(hr:gK W S)(at_ nn m_:Int)(zr:List Int)(sp:Option Addr)(l cap bt:Nat):
   Calls Tryz.prog 24 #[.pointer (some ⟨W.g,0,none⟩), .pointer (some ⟨S.st,0,none⟩), .agg (aK 9 at_ nn m_ (.slice sp l cap) bt)] w (iZ w base S 9 nn zr W c):=by
 obtain⟨w2,hw2⟩: ∃w2,w2=(w.alloc (.cells (aK 9 at_ nn m_ (.slice sp l cap) bt) 38)).alloc (.cells #[.int .i64 0, .int .i64 0, .bool false, .slice none 0 0, .int .i64 0, .int .i64 0, .int .i64 0, .int .i64 0, .int .i64 0, .int .i64 0, .int .i64 0, .int .i64 0, .int .i64 0, .int .i64 0, .int .i64 0, .int .i64 0, .int .i64 0, .int .i64 0] 46):=⟨_,rfl⟩
 have HW2:=aa hw2
 have hP:Pn w w2 (aK 9 at_ nn m_ (.slice sp l cap) bt):=by rw [hw2];exact Pn.mk' w _
 have k0:w2.cell? ⟨w.heap.size,0,none⟩=some (.int .i64 9):=by rw [cell_of_row _ _ _ _ _ _ hP.op];rfl
 have k2:w2.cell? ⟨w.heap.size,2,none⟩=some (.int .i64 nn):=by rw [cell_of_row _ _ _ _ _ _ hP.op];rfl
 have h2:=h.below hP.bl
 have HC:Hid (Calls Tryz.prog 52 #[.pointer (some ⟨S.st,0,none⟩)] w2 fun e w'=>e= .returned (.int .i64 (S.aB.length))/\cH w2 base S S w'):=aa ((Dt w2 base S h2 (by have:=G.bd;omega)).mono fun e w' ⟨he,hB⟩=>⟨he,cH.same h2 (hB▸Below.refl _ _)⟩)
 have HF:=aa (fun(S':au) (w3:World) (hO:cH w2 base S S' w3) (cs:Array Value)=>kI h hW hr hP hO cs)
 have nK:=aa (fun(S':au) (w3:World) (hO:cH w2 base S S' w3)=>show w3.heap[w.heap.size+1]? =some (.cells cf 46 (0,0))from(hO.2.2.1.block _ (by have:=hP.sz;omega) (fun q=>by have:=(h.cF q).2;omega)).trans hP.an)
 clear h h2 hW hr hP G
 rw [hw2]at k0 k2
 clear hw2
 go_enter Tryz.func24,Tryz.ntmps24
 go_wp2_with (first
   | refine cQ rfl (.tmp 2) rfl _ at_ nn m_ sp l cap bt rfl ?_)
 rw [<-HW2.out]
 refine HC.out.mono ?_
 rintro e w3 ⟨rfl,hO⟩
 have HO:=aa hO
 have H3:=aa (nK.out _ _ hO)
 clear hO HC k0 k2
 have HS0:=aa (show cf.size=(cT 0 S.aB.length (.slice none 0 0) sup0 0 0 0 0 0).size from rfl)
 have iO:=aa (oQ 0 S.aB.length none 0 0 sup0 0 0 0 0 0)
 have iP:=aa (ia 0 S.aB.length (.slice none 0 0) sup0 0 0 0 0 0)
 go_wp2_with (first| (refine wpList_store_row rfl 46 (.tmp 6) (.tmp 227) rfl (w.heap.size+1) (cT 0 S.aB.length (.slice none 0 0) sup0 0 0 0 0 0) rfl rfl 46 cf H3.out iP.out HS0.out iO.out ?_)| fail)
 refine bodyPost_ret (bf Tryz.results24 _ _ (w.heap.size+1) 46 _ _ _ (by first| rfl| simp) (setRow_heap _ _ _ _ _ _ H3.out) Tryz.underlying46 rfl (ia _ _ _ _ _ _ _ _ _)) rfl ?_
 obtain⟨z1,z2,z3,z4,z5,z6⟩:=HF.out _ _ HO.out (cT 0 S.aB.length (.slice none 0 0) sup0 0 0 0 0 0)
 exact⟨S,W,_,_, .slice none 0 0,[],_,_,_,_,_,_,rfl,⟨Own.nil _ _,fun k e=>by simp [Value.ownBlock]at e⟩,Or.inr (Or.inr (Or.inr (Or.inr ⟨⟨by decide,by decide⟩,rfl,rfl,rfl,rfl,rfl,rfl⟩))),z1,z2,z3,⟨rfl,rfl,rfl⟩,z4,z5,z6,Gr.refl _ _⟩
theorem Jf(w:World)(base:Nat)(S:au)(b:Nat)(h:SK w base S)(G:Gd S b)(hb:b<=1000000000)(W:Wr)(c:Nat)(hW:WO w base W c)(hr:gK W S)(at_ nn m_:Int)(zr:List Int)(sp:Option Addr)(l cap bt:Nat):
   Calls Tryz.prog 24 #[.pointer (some ⟨W.g,0,none⟩), .pointer (some ⟨S.st,0,none⟩), .agg (aK 10 at_ nn m_ (.slice sp l cap) bt)] w (iZ w base S 10 nn zr W c):=by
 obtain⟨w2,hw2⟩: ∃w2,w2=(w.alloc (.cells (aK 10 at_ nn m_ (.slice sp l cap) bt) 38)).alloc (.cells #[.int .i64 0, .int .i64 0, .bool false, .slice none 0 0, .int .i64 0, .int .i64 0, .int .i64 0, .int .i64 0, .int .i64 0, .int .i64 0, .int .i64 0, .int .i64 0, .int .i64 0, .int .i64 0, .int .i64 0, .int .i64 0, .int .i64 0, .int .i64 0] 46):=⟨_,rfl⟩
 have HW2:=aa hw2
 have hP:Pn w w2 (aK 10 at_ nn m_ (.slice sp l cap) bt):=by rw [hw2];exact Pn.mk' w _
 have k0:w2.cell? ⟨w.heap.size,0,none⟩=some (.int .i64 10):=by rw [cell_of_row _ _ _ _ _ _ hP.op];rfl
 have k2:w2.cell? ⟨w.heap.size,2,none⟩=some (.int .i64 nn):=by rw [cell_of_row _ _ _ _ _ _ hP.op];rfl
 have h2:=h.below hP.bl
 have HC:Hid (Calls Tryz.prog 16 #[.pointer (some ⟨S.st,0,none⟩)] w2 fun e w'=>e= .returned (.int .i64 (S.D.np))/\cH w2 base S S w'):=aa ((mZ w2 base S h2).mono fun e w' ⟨he,hB⟩=>⟨he,cH.same h2 (hB▸Below.refl _ _)⟩)
 have HF:=aa (fun(S':au) (w3:World) (hO:cH w2 base S S' w3) (cs:Array Value)=>kI h hW hr hP hO cs)
 have nK:=aa (fun(S':au) (w3:World) (hO:cH w2 base S S' w3)=>show w3.heap[w.heap.size+1]? =some (.cells cf 46 (0,0))from(hO.2.2.1.block _ (by have:=hP.sz;omega) (fun q=>by have:=(h.cF q).2;omega)).trans hP.an)
 clear h h2 hW hr hP G
 rw [hw2]at k0 k2
 clear hw2
 go_enter Tryz.func24,Tryz.ntmps24
 go_wp2_with (first
   | refine cQ rfl (.tmp 2) rfl _ at_ nn m_ sp l cap bt rfl ?_)
 rw [<-HW2.out]
 refine HC.out.mono ?_
 rintro e w3 ⟨rfl,hO⟩
 have HO:=aa hO
 have H3:=aa (nK.out _ _ hO)
 clear hO HC k0 k2
 have HS0:=aa (show cf.size=(cT 0 S.D.np (.slice none 0 0) sup0 0 0 0 0 0).size from rfl)
 have iO:=aa (oQ 0 S.D.np none 0 0 sup0 0 0 0 0 0)
 have iP:=aa (ia 0 S.D.np (.slice none 0 0) sup0 0 0 0 0 0)
 go_wp2_with (first| (refine wpList_store_row rfl 46 (.tmp 6) (.tmp 233) rfl (w.heap.size+1) (cT 0 S.D.np (.slice none 0 0) sup0 0 0 0 0 0) rfl rfl 46 cf H3.out iP.out HS0.out iO.out ?_)| fail)
 refine bodyPost_ret (bf Tryz.results24 _ _ (w.heap.size+1) 46 _ _ _ (by first| rfl| simp) (setRow_heap _ _ _ _ _ _ H3.out) Tryz.underlying46 rfl (ia _ _ _ _ _ _ _ _ _)) rfl ?_
 obtain⟨z1,z2,z3,z4,z5,z6⟩:=HF.out _ _ HO.out (cT 0 S.D.np (.slice none 0 0) sup0 0 0 0 0 0)
 exact⟨S,W,_,_, .slice none 0 0,[],_,_,_,_,_,_,rfl,⟨Own.nil _ _,fun k e=>by simp [Value.ownBlock]at e⟩,Or.inr (Or.inr (Or.inr (Or.inr ⟨⟨by decide,by decide⟩,rfl,rfl,rfl,rfl,rfl,rfl⟩))),z1,z2,z3,⟨rfl,rfl,rfl⟩,z4,z5,z6,Gr.refl _ _⟩
theorem Jg(w:World)(base:Nat)(S:au)(b:Nat)(h:SK w base S)(G:Gd S b)(hb:b<=1000000000)(W:Wr)(c:Nat)(hW:WO w base W c)(hr:gK W S)(at_ nn m_:Int)(zr:List Int)(sp:Option Addr)(l cap bt:Nat):
   Calls Tryz.prog 24 #[.pointer (some ⟨W.g,0,none⟩), .pointer (some ⟨S.st,0,none⟩), .agg (aK 7 at_ nn m_ (.slice sp l cap) bt)] w (iZ w base S 7 nn zr W c):=by
 obtain⟨w2,hw2⟩: ∃w2,w2=(w.alloc (.cells (aK 7 at_ nn m_ (.slice sp l cap) bt) 38)).alloc (.cells #[.int .i64 0, .int .i64 0, .bool false, .slice none 0 0, .int .i64 0, .int .i64 0, .int .i64 0, .int .i64 0, .int .i64 0, .int .i64 0, .int .i64 0, .int .i64 0, .int .i64 0, .int .i64 0, .int .i64 0, .int .i64 0, .int .i64 0, .int .i64 0] 46):=⟨_,rfl⟩
 have HW2:=aa hw2
 have hP:Pn w w2 (aK 7 at_ nn m_ (.slice sp l cap) bt):=by rw [hw2];exact Pn.mk' w _
 have k0:w2.cell? ⟨w.heap.size,0,none⟩=some (.int .i64 7):=by rw [cell_of_row _ _ _ _ _ _ hP.op];rfl
 have k2:w2.cell? ⟨w.heap.size,2,none⟩=some (.int .i64 nn):=by rw [cell_of_row _ _ _ _ _ _ hP.op];rfl
 have h2:=h.below hP.bl
 have HC:=aa (iX w2 base S h2)
 have iz:=aa (fun(w4:World) (hB:Below w2.heap.size w2 w4)=>show cH w2 base S S w4 from cH.same h2 hB)
 have HF:=aa (fun(S':au) (w3:World) (hO:cH w2 base S S' w3) (cs:Array Value)=>kI h hW hr hP hO cs)
 have nK:=aa (fun(S':au) (w3:World) (hO:cH w2 base S S' w3)=>show w3.heap[w.heap.size+1]? =some (.cells cf 46 (0,0))from(hO.2.2.1.block _ (by have:=hP.sz;omega) (fun q=>by have:=(h.cF q).2;omega)).trans hP.an)
 clear h h2 hW hr hP G
 rw [hw2]at k0 k2
 clear hw2
 go_enter Tryz.func24,Tryz.ntmps24
 go_wp2_with (first
   | refine cQ rfl (.tmp 2) rfl _ at_ nn m_ sp l cap bt rfl ?_)
 rw [<-HW2.out]
 refine HC.out.mono ?_
 rintro e w3 ⟨rfl,hB⟩
 have r4:=aF w3 (.cells #[.int .i64 0, .int .i64 0, .int .i64 0, .int .i64 0, .int .i64 0] 40)
 have HR5:Hid (((w3.alloc (.cells #[.int .i64 0, .int .i64 0, .int .i64 0, .int .i64 0, .int .i64 0] 40)).setRow w3.heap.size (ae S.s)).heap[w3.heap.size]? =some (.cells (ae S.s) 40 (0,0))):=aa (setRow_heap _ _ _ _ _ _ r4)
 have R4:=aa r4
 have HO:=aa (iz.out ((w3.alloc (.cells #[.int .i64 0, .int .i64 0, .int .i64 0, .int .i64 0, .int .i64 0] 40)).setRow w3.heap.size (ae S.s)) (below_setRow (hB.trans ((aq w3 _).mono hB.size)) hB.size _))
 have H3:=aa (nK.out _ _ HO.out)
 clear hB HC k0 k2 r4
 have HS0:=aa (show cf.size=(cT 0 0 (.slice none 0 0) S.s 0 0 0 0 0).size from rfl)
 have iO:=aa (oQ 0 0 none 0 0 S.s 0 0 0 0 0)
 have iP:=aa (ia 0 0 (.slice none 0 0) S.s 0 0 0 0 0)
 have HT0:Hid ((Tryz.prog.info? 40).map (·.size)=some ((ae S.s)).size):=aa (bQ S.s)
 have QA:Hid (((ae S.s)).all (·.oneCell')=true):=aa (by simp [ae,Value.oneCell'])
 go_wp2_with (first
   | refine wpList_store_row rfl 40 (.tmp 22) (.tmp 213) rfl w3.heap.size (ae S.s) rfl rfl 40 _ R4.out HT0.out rfl QA.out ?_
   | refine wpList_load_row rfl 40 (.tmp 22) rfl w3.heap.size rfl 40 (ae S.s) (0,0) _ HR5.out Tryz.underlying40 rfl HT0.out ?_
   | refine mF rfl 4 (.tmp 214) rfl (.agg (ae S.s)) rfl (cT 0 0 (.slice none 0 0) S.s 0 0 0 0 0) (UU S.s) ?_
   | (refine wpList_store_row rfl 46 (.tmp 6) (.tmp 215) rfl (w.heap.size+1) (cT 0 0 (.slice none 0 0) S.s 0 0 0 0 0) rfl rfl 46 cf H3.out iP.out HS0.out iO.out ?_)
   | fail)
 refine bodyPost_ret (bf Tryz.results24 _ _ (w.heap.size+1) 46 _ _ _ (by first| rfl| simp) (setRow_heap _ _ _ _ _ _ H3.out) Tryz.underlying46 rfl (ia _ _ _ _ _ _ _ _ _)) rfl ?_
 obtain⟨z1,z2,z3,z4,z5,z6⟩:=HF.out _ _ HO.out (cT 0 0 (.slice none 0 0) S.s 0 0 0 0 0)
 exact⟨S,W,_,_, .slice none 0 0,[],_,_,_,_,_,_,rfl,⟨Own.nil _ _,fun k e=>by simp [Value.ownBlock]at e⟩,Or.inr (Or.inr (Or.inr (Or.inr ⟨⟨by decide,by decide⟩,rfl,rfl,rfl,rfl,rfl,rfl⟩))),z1,z2,z3,⟨rfl,rfl,rfl⟩,z4,z5,z6,Gr.refl _ _⟩
theorem Jh(w:World)(base:Nat)(S:au)(b:Nat)(h:SK w base S)(G:Gd S b)(hb:b<=1000000000)(W:Wr)(c:Nat)(hW:WO w base W c)(hr:gK W S)(at_ nn m_:Int)(zr:List Int)(sp:Option Addr)(l cap bt:Nat):
   Calls Tryz.prog 24 #[.pointer (some ⟨W.g,0,none⟩), .pointer (some ⟨S.st,0,none⟩), .agg (aK 11 at_ nn m_ (.slice sp l cap) bt)] w (iZ w base S 11 nn zr W c):=by
 obtain⟨w2,hw2⟩: ∃w2,w2=(w.alloc (.cells (aK 11 at_ nn m_ (.slice sp l cap) bt) 38)).alloc (.cells #[.int .i64 0, .int .i64 0, .bool false, .slice none 0 0, .int .i64 0, .int .i64 0, .int .i64 0, .int .i64 0, .int .i64 0, .int .i64 0, .int .i64 0, .int .i64 0, .int .i64 0, .int .i64 0, .int .i64 0, .int .i64 0, .int .i64 0, .int .i64 0] 46):=⟨_,rfl⟩
 have HW2:=aa hw2
 have hP:Pn w w2 (aK 11 at_ nn m_ (.slice sp l cap) bt):=by rw [hw2];exact Pn.mk' w _
 have k0:w2.cell? ⟨w.heap.size,0,none⟩=some (.int .i64 11):=by rw [cell_of_row _ _ _ _ _ _ hP.op];rfl
 have k2:w2.cell? ⟨w.heap.size,2,none⟩=some (.int .i64 nn):=by rw [cell_of_row _ _ _ _ _ _ hP.op];rfl
 have h2:=h.below hP.bl
 have HC:=aa (FY w2 base S h2)
 have iz:=aa (fun(w4:World) (hB:Below w2.heap.size w2 w4)=>show cH w2 base S S w4 from cH.same h2 hB)
 have HF:=aa (fun(S':au) (w3:World) (hO:cH w2 base S S' w3) (cs:Array Value)=>kI h hW hr hP hO cs)
 have nK:=aa (fun(S':au) (w3:World) (hO:cH w2 base S S' w3)=>show w3.heap[w.heap.size+1]? =some (.cells cf 46 (0,0))from(hO.2.2.1.block _ (by have:=hP.sz;omega) (fun q=>by have:=(h.cF q).2;omega)).trans hP.an)
 clear h h2 hW hr hP G
 rw [hw2]at k0 k2
 clear hw2
 go_enter Tryz.func24,Tryz.ntmps24
 go_wp2_with (first
   | refine cQ rfl (.tmp 2) rfl _ at_ nn m_ sp l cap bt rfl ?_)
 rw [<-HW2.out]
 refine HC.out.mono ?_
 rintro e w3 ⟨rfl,hB⟩
 have r4:=aF w3 (.cells #[.int .i64 0, .int .i64 0, .int .i64 0, .int .i64 0, .int .i64 0] 42)
 have HR5:Hid (((w3.alloc (.cells #[.int .i64 0, .int .i64 0, .int .i64 0, .int .i64 0, .int .i64 0] 42)).setRow w3.heap.size #[Value.int .i64 (S.a.bc:Int),Value.int .i64 (S.a.misses:Int),Value.int .i64 (S.a.gone:Int),Value.int .i64 (S.a.clean.length:Int),Value.int .i64 (S.a.held.length:Int)]).heap[w3.heap.size]? =some (.cells #[Value.int .i64 (S.a.bc:Int),Value.int .i64 (S.a.misses:Int),Value.int .i64 (S.a.gone:Int),Value.int .i64 (S.a.clean.length:Int),Value.int .i64 (S.a.held.length:Int)] 42 (0,0))):=aa (setRow_heap _ _ _ _ _ _ r4)
 have R4:=aa r4
 have HO:=aa (iz.out ((w3.alloc (.cells #[.int .i64 0, .int .i64 0, .int .i64 0, .int .i64 0, .int .i64 0] 42)).setRow w3.heap.size #[Value.int .i64 (S.a.bc:Int),Value.int .i64 (S.a.misses:Int),Value.int .i64 (S.a.gone:Int),Value.int .i64 (S.a.clean.length:Int),Value.int .i64 (S.a.held.length:Int)]) (below_setRow (hB.trans ((aq w3 _).mono hB.size)) hB.size _))
 have H3:=aa (nK.out _ _ HO.out)
 clear hB HC k0 k2 r4
 have HS0:=aa (show cf.size=(cT 0 0 (.slice none 0 0) sup0 S.a.bc S.a.misses S.a.gone S.a.clean.length S.a.held.length).size from rfl)
 have iO:=aa (oQ 0 0 none 0 0 sup0 S.a.bc S.a.misses S.a.gone S.a.clean.length S.a.held.length)
 have iP:=aa (ia 0 0 (.slice none 0 0) sup0 S.a.bc S.a.misses S.a.gone S.a.clean.length S.a.held.length)
 have HT0:Hid ((Tryz.prog.info? 42).map (·.size)=some (#[Value.int .i64 (S.a.bc:Int),Value.int .i64 (S.a.misses:Int),Value.int .i64 (S.a.gone:Int),Value.int .i64 (S.a.clean.length:Int),Value.int .i64 (S.a.held.length:Int)]).size):=aa (iY)
 have QA:Hid ((#[Value.int .i64 (S.a.bc:Int),Value.int .i64 (S.a.misses:Int),Value.int .i64 (S.a.gone:Int),Value.int .i64 (S.a.clean.length:Int),Value.int .i64 (S.a.held.length:Int)]).all (·.oneCell')=true):=aa (by simp [ae,Value.oneCell'])
 go_wp2_with (first
   | refine wpList_store_row rfl 42 (.tmp 26) (.tmp 235) rfl w3.heap.size #[Value.int .i64 (S.a.bc:Int),Value.int .i64 (S.a.misses:Int),Value.int .i64 (S.a.gone:Int),Value.int .i64 (S.a.clean.length:Int),Value.int .i64 (S.a.held.length:Int)] rfl rfl 42 _ R4.out HT0.out rfl QA.out ?_
   | refine wpList_load_row rfl 42 (.tmp 26) rfl w3.heap.size rfl 42 #[Value.int .i64 (S.a.bc:Int),Value.int .i64 (S.a.misses:Int),Value.int .i64 (S.a.gone:Int),Value.int .i64 (S.a.clean.length:Int),Value.int .i64 (S.a.held.length:Int)] (0,0) _ HR5.out Tryz.underlying42 rfl HT0.out ?_
   | refine mF rfl 5 (.tmp 236) rfl (.agg #[Value.int .i64 (S.a.bc:Int),Value.int .i64 (S.a.misses:Int),Value.int .i64 (S.a.gone:Int),Value.int .i64 (S.a.clean.length:Int),Value.int .i64 (S.a.held.length:Int)]) rfl (cT 0 0 (.slice none 0 0) sup0 S.a.bc S.a.misses S.a.gone S.a.clean.length S.a.held.length) (UW _ _ _ _ _) ?_
   | (refine wpList_store_row rfl 46 (.tmp 6) (.tmp 237) rfl (w.heap.size+1) (cT 0 0 (.slice none 0 0) sup0 S.a.bc S.a.misses S.a.gone S.a.clean.length S.a.held.length) rfl rfl 46 cf H3.out iP.out HS0.out iO.out ?_)
   | fail)
 refine bodyPost_ret (bf Tryz.results24 _ _ (w.heap.size+1) 46 _ _ _ (by first| rfl| simp) (setRow_heap _ _ _ _ _ _ H3.out) Tryz.underlying46 rfl (ia _ _ _ _ _ _ _ _ _)) rfl ?_
 obtain⟨z1,z2,z3,z4,z5,z6⟩:=HF.out _ _ HO.out (cT 0 0 (.slice none 0 0) sup0 S.a.bc S.a.misses S.a.gone S.a.clean.length S.a.held.length)
 exact⟨S,W,_,_, .slice none 0 0,[],_,_,_,_,_,_,rfl,⟨Own.nil _ _,fun k e=>by simp [Value.ownBlock]at e⟩,Or.inr (Or.inr (Or.inr (Or.inr ⟨⟨by decide,by decide⟩,rfl,rfl,rfl,rfl,rfl,rfl⟩))),z1,z2,z3,⟨rfl,rfl,rfl⟩,z4,z5,z6,Gr.refl _ _⟩
end Go.Proofs.YtpdakmhnnkaafaaGreat
namespace Go.Proofs.YtpdakmhnnkaafaaGreat
set_option maxRecDepth 100000
set_option maxHeartbeats 40000000
set_option linter.unusedVariables false
set_option linter.unusedSimpArgs false
open Go.RowKit
open Go.Proofs.YtpdakmhnnkaafaaGreat.Ca (Ct ct0 av bV AS)
theorem WO.vh{w:World}{base:Nat}{W:Wr}{c:Nat}(h:WO w base W c):W.B≠W.g/\(∀{u:Value} {us:List Value},Bo.cw w base u us->u.ownBlock≠some W.g)/\W.room.ownBlock≠some W.g:=by
 refine⟨Bo.dU h.pb.bk h.row (by decide),fun hu e=>?_,fun e=>?_⟩
 · obtain⟨_,_,x,hx⟩:=hu.heap _ e
   exact Bo.dU hx h.row (by decide) rfl
 · obtain⟨_,cs,hx⟩:=aH h.rm _ e
   exact Bo.dU hx h.row (by decide) rfl
theorem WO.turned{w:World}{base:Nat}{W:Wr}{c:Nat}(h:WO w base W c):WO (w.setCell ⟨W.g,5,none⟩ (.int .i64 ((W.turn:Int)+1))) base {W with turn:=W.turn+1} (c+1):=by
 obtain⟨n1,n2,n3⟩:=h.vh
 have kp: ∀k,k≠W.g->(w.setCell ⟨W.g,5,none⟩ (.int .i64 ((W.turn:Int)+1))).heap[k]? =w.heap[k]? :=fun k e=>heap_setCell_other w ⟨W.g,5,none⟩ k _ e
 have kS: ∀{u:Value} {us:List Value},Bo.cw w base u us->Bo.cw (w.setCell ⟨W.g,5,none⟩ (.int .i64 ((W.turn:Int)+1))) base u us:=fun hu=>hu.of_heap fun k e=>kp k fun q=>n2 hu (q▸e)
 refine⟨h.hg,?_,⟨h.pb.hb,(kp _ n1).trans h.pb.bk,kS h.pb.o1,kS h.pb.o2,kS h.pb.o3,kS h.pb.o4,h.pb.d12,h.pb.d13,h.pb.d14,h.pb.d23,h.pb.d24,h.pb.d34⟩,kS h.st,kS h.wt,h.dsw,h.ds1,h.ds2,h.ds3,h.ds4,h.dw1,h.dw2,h.dw3,h.dw4,h.rm.of_heap fun k e=>kp k fun q=>n3 (q▸e),h.rz,by have:=h.l1;show W.L1.length<=_;omega,h.l2,h.l3,h.l4,by have:=h.ls;show W.Ss.length<=_;omega,by have:=h.lw;show W.Ws.length<=_;omega,by have:=h.tu;show W.turn+1<=_;omega⟩
 rw [heap_setCell_same _ _ _ _ _ _ h.row]
 rfl
theorem WO.pushed3{w w':World}{base:Nat}{W:Wr}{c:Nat}(h:WO w base W c)(x v':Value)(q1:Bo.cw w' base v' (W.Ss++ [x]))(q2:Below base w w')(q3: ∀k,k<w.heap.size->W.sl.ownBlock≠some k->w'.heap[k]? =w.heap[k]?)(q4:v'.ownBlock=W.sl.ownBlock\/ ∃k,v'.ownBlock=some k/\w.heap.size<=k)(hc:W.Ss.length+1<=c):
   w'.heap[W.g]? =some (.cells (kH W.dl W.tl W.B W.sl W.wl W.room W.turn) 33 (0,0))/\WO (w'.setCell ⟨W.g,3,none⟩ v') base {W with sl:=v',Ss:=W.Ss++ [x]} c/\Below base w (w'.setCell ⟨W.g,3,none⟩ v')/\ ∀k,k<w.heap.size->k≠W.g->W.sl.ownBlock≠some k->(w'.setCell ⟨W.g,3,none⟩ v').heap[k]? =w.heap[k]? :=by
 obtain⟨n1,n2,n3⟩:=h.vh
 have e0:w'.heap[W.g]? =some (.cells (kH W.dl W.tl W.B W.sl W.wl W.room W.turn) 33 (0,0)):=(q3 _ (aC h.row) (n2 h.st)).trans h.row
 have kp: ∀k,k<w.heap.size->k≠W.g->W.sl.ownBlock≠some k->(w'.setCell ⟨W.g,3,none⟩ v').heap[k]? =w.heap[k]? :=fun k a e f=>(heap_setCell_other w' ⟨W.g,3,none⟩ k _ e).trans (q3 k a f)
 have kS: ∀{u:Value} {us:List Value},Bo.cw w base u us->Bo.Dj W.sl u->Bo.cw (w'.setCell ⟨W.g,3,none⟩ v') base u us:=fun hu hd=>hu.of_heap fun k e=>kp k (hu.heap k e).2.1 (fun q=>n2 hu (q▸e)) (fun q=>hd k q e)
 have zI:v'.ownBlock≠some W.g:=fun e=>by
   obtain⟨_,_,y,hy⟩:=q1.heap _ e
   exact Bo.dU hy e0 (by decide) rfl
 refine⟨e0,⟨h.hg,?_,⟨h.pb.hb,(kp _ (aC h.pb.bk) n1 (fun e=>?_)).trans h.pb.bk,kS h.pb.o1 h.ds1,kS h.pb.o2 h.ds2,kS h.pb.o3 h.ds3,kS h.pb.o4 h.ds4,h.pb.d12,h.pb.d13,h.pb.d14,h.pb.d23,h.pb.d24,h.pb.d34⟩,q1.of_heap fun k e=>heap_setCell_other w' ⟨W.g,3,none⟩ k _ (fun q=>zI (show v'.ownBlock=some W.g by rw [<-show k=W.g from q];exact e)),kS h.wt h.dsw,Bo.gJ.push h.wt h.dsw q4,Bo.gJ.push h.pb.o1 h.ds1 q4,Bo.gJ.push h.pb.o2 h.ds2 q4,Bo.gJ.push h.pb.o3 h.ds3 q4,Bo.gJ.push h.pb.o4 h.ds4 q4,h.dw1,h.dw2,h.dw3,h.dw4,h.rm.of_heap fun k e=>?_,h.rz,h.l1,h.l2,h.l3,h.l4,by rw [List.length_append];exact hc,h.lw,h.tu⟩,q2.setCell h.hg _,kp⟩
 · rw [heap_setCell_same _ _ _ _ _ _ e0];rfl
 · exact Bo.jl h.st h.pb.bk e
 · obtain⟨_,cs,hx⟩:=aH h.rm _ e
   refine kp k (aC hx) (fun q=>n3 (q▸e)) fun q=>?_
   obtain⟨_,_,y,hy⟩:=h.st.heap _ q
   exact Bo.dU hy hx (by decide) rfl
theorem WO.pushed4{w w':World}{base:Nat}{W:Wr}{c:Nat}(h:WO w base W c)(x v':Value)(q1:Bo.cw w' base v' (W.Ws++ [x]))(q2:Below base w w')(q3: ∀k,k<w.heap.size->W.wl.ownBlock≠some k->w'.heap[k]? =w.heap[k]?)(q4:v'.ownBlock=W.wl.ownBlock\/ ∃k,v'.ownBlock=some k/\w.heap.size<=k)(hc:W.Ws.length+1<=c):
   w'.heap[W.g]? =some (.cells (kH W.dl W.tl W.B W.sl W.wl W.room W.turn) 33 (0,0))/\WO (w'.setCell ⟨W.g,4,none⟩ v') base {W with wl:=v',Ws:=W.Ws++ [x]} c/\Below base w (w'.setCell ⟨W.g,4,none⟩ v')/\ ∀k,k<w.heap.size->k≠W.g->W.wl.ownBlock≠some k->(w'.setCell ⟨W.g,4,none⟩ v').heap[k]? =w.heap[k]? :=by
 obtain⟨n1,n2,n3⟩:=h.vh
 have e0:w'.heap[W.g]? =some (.cells (kH W.dl W.tl W.B W.sl W.wl W.room W.turn) 33 (0,0)):=(q3 _ (aC h.row) (n2 h.wt)).trans h.row
 have kp: ∀k,k<w.heap.size->k≠W.g->W.wl.ownBlock≠some k->(w'.setCell ⟨W.g,4,none⟩ v').heap[k]? =w.heap[k]? :=fun k a e f=>(heap_setCell_other w' ⟨W.g,4,none⟩ k _ e).trans (q3 k a f)
 have kS: ∀{u:Value} {us:List Value},Bo.cw w base u us->Bo.Dj W.wl u->Bo.cw (w'.setCell ⟨W.g,4,none⟩ v') base u us:=fun hu hd=>hu.of_heap fun k e=>kp k (hu.heap k e).2.1 (fun q=>n2 hu (q▸e)) (fun q=>hd k q e)
 have zI:v'.ownBlock≠some W.g:=fun e=>by
   obtain⟨_,_,y,hy⟩:=q1.heap _ e
   exact Bo.dU hy e0 (by decide) rfl
 refine⟨e0,⟨h.hg,?_,⟨h.pb.hb,(kp _ (aC h.pb.bk) n1 (fun e=>?_)).trans h.pb.bk,kS h.pb.o1 h.dw1,kS h.pb.o2 h.dw2,kS h.pb.o3 h.dw3,kS h.pb.o4 h.dw4,h.pb.d12,h.pb.d13,h.pb.d14,h.pb.d23,h.pb.d24,h.pb.d34⟩,kS h.st h.dsw.symm,q1.of_heap fun k e=>heap_setCell_other w' ⟨W.g,4,none⟩ k _ (fun q=>zI (show v'.ownBlock=some W.g by rw [<-show k=W.g from q];exact e)),(Bo.gJ.push h.st h.dsw.symm q4).symm,h.ds1,h.ds2,h.ds3,h.ds4,Bo.gJ.push h.pb.o1 h.dw1 q4,Bo.gJ.push h.pb.o2 h.dw2 q4,Bo.gJ.push h.pb.o3 h.dw3 q4,Bo.gJ.push h.pb.o4 h.dw4 q4,h.rm.of_heap fun k e=>?_,h.rz,h.l1,h.l2,h.l3,h.l4,h.ls,by rw [List.length_append];exact hc,h.tu⟩,q2.setCell h.hg _,kp⟩
 · rw [heap_setCell_same _ _ _ _ _ _ e0];rfl
 · exact Bo.jl h.wt h.pb.bk e
 · obtain⟨_,cs,hx⟩:=aH h.rm _ e
   refine kp k (aC hx) (fun q=>n3 (q▸e)) fun q=>?_
   obtain⟨_,_,y,hy⟩:=h.wt.heap _ q
   exact Bo.dU hy hx (by decide) rfl
theorem Lj{w w2 w3 w6:World}{base:Nat}{S S':au}{c:Nat}{W W':Wr}{oc:Array Value}(h:SK w base S)(hW:WO w base W c)(hr:gK W S)(hP:Pn w w2 oc)(hO:cH w2 base S S' w3)(u:Value)(hW':WO w6 base W' (c+1))(hb6:Below base w3 w6)(fr: ∀k,k<w3.heap.size->k∉W.fp->u.ownBlock≠some k->w6.heap[k]? =w3.heap[k]?)(hu: ∀k,u.ownBlock=some k->w2.heap.size<=k/\k∉S'.fp)(fL: ∀k,W'.room.ownBlock=some k->k∉S'.fp/\k≠w.heap.size+1)(cs:Array Value):
   SK (w6.setRow (w.heap.size+1) cs) base S'/\WO (w6.setRow (w.heap.size+1) cs) base W' (c+1)/\gK W' S'/\Below base w (w6.setRow (w.heap.size+1) cs)/\Fr (S.fp++W.fp) w (w6.setRow (w.heap.size+1) cs)/\Gr w S.fp S'.fp/\w6.heap[w.heap.size+1]? =some (.cells cf 46 (0,0)):=by
 obtain⟨hS,hb,hf,hg⟩:=hO
 have cX:=h.base
 have hsz:=hP.sz
 have hz3:=hf.size
 have ne1: ∀k∈S'.fp,k≠w.heap.size+1:=fun k hk=>by
   rcases hg k hk with q| q
   · have:=(h.cF q).2;omega
   · omega
 have UX: ∀k∈S'.fp,k∉W.fp:=fun k hk q=>by
   have l1:=(hW.ty q).2.1
   rcases hg k hk with z| z
   · exact hW.off h hr q z
   · omega
 have ea:w6.heap[w.heap.size+1]? =some (.cells cf 46 (0,0)):=by
   refine(fr _ (by omega) (fun q=>by have:=(hW.ty q).2.1;omega) (fun q=>by have:=(hu _ q).1;omega)).trans ((hf.block _ (by omega) (fun q=>by have:=(h.cF q).2;omega)).trans hP.an)
 refine⟨hS.lh (fun k hk=>(setRow_other _ _ _ _ (ne1 k hk)).trans (fr k (hS.cF hk).2 (UX k hk) (fun q=>(hu k q).2 hk))) (by rw [size_setRow];exact hb6.size),hW'.keep fun k hk=>setRow_other _ _ _ _ fun q=>?_,fun k e=>(fL k e).1,?_,?_,fun k q=>(hg k q).imp id (fun z=>by omega),ea⟩
 · subst q
   obtain⟨_,_,⟨cs2,t,a1,a2⟩| e⟩:=hW'.ty hk
   · rw [ea]at a1
     injection a1 with a1
     injection a1 with _ a3 _
     rcases a2 with r| r| r<;>rw [r]at a3<;>exact absurd a3 (by decide)
   · exact(fL _ e).2 rfl
 · exact below_setRow (((hP.bl.mono cX).trans hb).trans hb6) (by omega) cs
 · have z6:=hb6.size
   refine⟨hb6.os.trans (hf.os.trans hP.bl.os),hb6.tape.trans (hf.tape.trans hP.bl.tape),hb6.output.trans (hf.output.trans hP.bl.output),by rw [size_setRow];omega,fun k a q=>?_⟩
   have q1:k∉S.fp:=fun z=>q (List.mem_append_left _ z)
   have q2:k∉W.fp:=fun z=>q (List.mem_append_right _ z)
   exact(setRow_other _ _ _ _ (by omega)).trans ((fr k (by omega) q2 (fun z=>by have:=(hu k z).1;omega)).trans ((hf.block k (by omega) q1).trans (hP.bl.block k a)))
end Go.Proofs.YtpdakmhnnkaafaaGreat

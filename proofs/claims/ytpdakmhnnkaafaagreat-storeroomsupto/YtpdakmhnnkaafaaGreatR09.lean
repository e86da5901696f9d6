import Derived.Maps.RangeWalk
import Derived.Test.YtpdakmhnnkaafaaGreatR08
namespace Go.Proofs.YtpdakmhnnkaafaaGreat
set_option maxRecDepth 100000
set_option maxHeartbeats 40000000
set_option linter.unusedVariables false
set_option linter.unusedSimpArgs false
open Go.RowKit
attribute [local go_sem ↓] Go.wp_at_zero Go.wp_at_succ
def kT(p:Nat)(s:aD)(nx ep:Int):Array Value:= #[.pointer (some ⟨p,0,none⟩), .int .i64 s.wd, .int .i64 s.ge, .int .i64 s.ma, .int .i64 s.hd, .int .i64 s.pg, .int .i64 nx, .int .i64 ep]
def FK(w:World)(g p:Nat)(s:aD)(nx ep:Int):Prop:=w.heap[g]? =some (.cells (kT p s nx ep) 88 (0,0))
theorem FK.below{w w1:World}{g p:Nat}{s:aD}{nx ep:Int}(h:FK w g p s nx ep)(hb:Below w.heap.size w w1):FK w1 g p s nx ep:=(hb.block g (aC h)).trans h
theorem FK.not{w:World}{g p:Nat}{s:aD}{nx ep:Int}(h:FK w g p s nx ep){base:Nat}{F:List Nat}{q:Nat}{D:DS}(hd:DA w base F q D):g∉F:=hd.cS h (by decide) (by decide) (by decide)
theorem FK.other{w w1:World}{g p:Nat}{s:aD}{nx ep:Int}(h:FK w g p s nx ep){base:Nat}{F:List Nat}{q:Nat}{D:DS}(hd:DA w base F q D)(hf:Fr F w w1):FK w1 g p s nx ep:=hf.keep h (h.not hd)
theorem FK.cell{w:World}{g p:Nat}{s:aD}{nx ep:Int}(h:FK w g p s nx ep)(j:Nat):w.cell? ⟨g,j,none⟩=(kT p s nx ep)[j]? :=cell_of_row _ _ _ _ _ _ h
theorem zj{w:World}{b:Nat}{s:aD}{t:TypeId}(h:w.heap[b]? =some (.cells (ae s) t (0,0))):w.cell? ⟨b,4,none⟩=some (.int .i64 s.pg):=by simp [World.cell?,h,ae]
theorem sP{w:World}{b:Nat}{s:aD}{t:TypeId}(h:w.heap[b]? =some (.cells (ae s) t (0,0))):w.cell? ⟨b,2,none⟩=some (.int .i64 s.ma):=by simp [World.cell?,h,ae]
theorem DA.drew{w:World}{base:Nat}{F:List Nat}{p:Nat}{D:DS}(h:DA w base F p D):DA w.drew base F p D:=h.of_heap fun _ _=>rfl
theorem Fw(w:World)(base:Nat)(F:List Nat)(p:Nat)(D:DS)(h:DA w base F p D)(je:D.ag<4000000000000000000):
   Calls Tryz.prog 30 #[.pointer (some ⟨p,0,none⟩)] w fun e w'=>e= .returned (.int .i64 (D.ag+1))/\DA w' base F p {D with ag:=D.ag+1}/\Fr F w w':=by
 obtain⟨P,rfl,rfl,hk,hok⟩:=h
 refine(Ko w base P D hk ⟨hok.ag.1,je⟩).mono ?_
 rintro e w' ⟨rfl,h1,h2⟩
 exact⟨rfl,⟨P,rfl,rfl,h1,⟨hok.n,hok.bts,hok.ops,hok.reads,hok.writes,hok.aA,by show 0<=D.ag+1/\D.ag+1<=_;have:=hok.ag;omega,hok.armed⟩⟩,h2⟩
theorem Fx(p:Nat)(s:aD)(nx ep:Int)(w:World):
   (Instr.build 88 #[(0, .pointer (some ⟨p,0,none⟩)),(1, .agg (ae s)),(2, .int .i64 nx),(3, .int .i64 ep)]).run Tryz.prog w= .ok (.agg (kT p s nx ep)) w:=by
 kernel_rfl
theorem uj{ops:Array Oper}{S:World->Prop}{o:Oper}{a:Act}(hw:Region.wanted o (yielded ops a.tmps)=true)(x y z u:Operand)(ho:o.op= .build 88 #[(0,x),(1,y),(2,z),(3,u)])
   (p:Nat) (s:aD) (nx ep:Int) (hx:a.eval x= .pointer (some ⟨p,0,none⟩)) (hy:a.eval y= .agg (ae s)) (hz:a.eval z= .int .i64 nx) (hu:a.eval u= .int .i64 ep):
   YieldsIf Tryz.prog ops S o (.agg (kT p s nx ep)) a:=
 .inl ⟨hw,fun w _=>by
   unfold execOp
   simp only [ho,List.map_toArray,List.map_cons,List.map_nil,hx,hy,hz,hu,Sem.run_bind,Fx,Result.andThen_ok,Sem.run_pure]⟩
theorem Kt(p:Nat)(s:aD)(nx ep:Int)(w:World):
   (Instr.box 88 (.agg (kT p s nx ep))).run Tryz.prog w= .ok (.pointer (some ⟨w.heap.size,0,none⟩)) (w.alloc (.cells (kT p s nx ep) 88)):=by
 kernel_rfl
theorem Ac{w:World}{ops:Array Oper}{o:Oper}{a:Act}{K:Act->World->Prop}{Q:Exit->Act->World->Prop}{E:Prop}(hw:Region.wanted o (yielded ops a.tmps)=true)(x:Operand)(ho:o.op= .box 88 x)
   (p:Nat) (s:aD) (nx ep:Int) (hx:a.eval x= .agg (kT p s nx ep)) (h:K (a.put o.dst (.pointer (some ⟨w.heap.size,0,none⟩))) (w.alloc (.cells (kT p s nx ep) 88))):
   if Region.wanted o (yielded ops a.tmps)=true then Oper.wp Tryz.prog o a w K Q else E:=by
 rw [if_pos hw]
 unfold Oper.wp execOp
 simp only [ho,hx,Sem.run_bind,Kt,Result.andThen_ok,Sem.run_pure]
 exact h
def ak(D:DS)(ep:Int):Int:=if D.ag≠ep then 3 else if D.power=true then 0 else 2
theorem gD(w:World)(base:Nat)(F:List Nat)(p:Nat)(D:DS)(h:DA w base F p D)(g:Nat)(s:aD)(nx ep:Int)(hf:FK w g p s nx ep):
   Calls Tryz.prog 31 #[.pointer (some ⟨g,0,none⟩)] w fun e w'=>e= .returned (.int .i64 (ak D ep))/\Below w.heap.size w w':=by
 have HD:=aa h
 have kz:g<w.heap.size:=aC hf
 have c0:=aa (show w.cell? ⟨g,0,none⟩=some (.pointer (some ⟨p,0,none⟩))from hf.cell 0)
 have c7:=aa (show w.cell? ⟨g,7,none⟩=some (.int .i64 ep)from hf.cell 7)
 have Mn:=aa (fun(w1:World) (hb:Below w.heap.size w w1)=>za w1 base F p D (h.below hb))
 have HC0:=aa (fun(w1:World) (hb:Below w.heap.size w w1)=>(hb.cell (p:=⟨g,0,none⟩) kz).trans c0.out)
 clear h hf
 by_cases he:D.ag=ep
 · have HL:=aa (show ak D ep=if D.power=true then 0 else 2 by unfold ak;rw [if_neg (fun q=>q he)])
   have he:(D.ag !=ep)=false:=by simpa using he
   go_enter Tryz.func31,Tryz.ntmps31
   go_wp2
   refine wp_region_noPanic ?_
   refine wp_region_held_drew (S:=fun w'=>Below w.heap.size w w') (by kernel_rfl) (Below.refl _ _).drew (fun hHeld=>?_)
   refine ai 0 (.pointer (some ⟨g,0,none⟩)) rfl hHeld ?_
   try go_frame
   refine ai 5 (.pointer (some ⟨g,0,none⟩)) rfl hHeld ?_
   try go_frame
   refine ai 1 (.pointer (some ⟨g,0,none⟩)) rfl hHeld ?_
   try go_frame
   refine ai 6 (.pointer (some ⟨g,0,none⟩)) rfl hHeld ?_
   try go_frame
   refine ai 2 (.pointer (some ⟨g,0,none⟩)) rfl hHeld ?_
   try go_frame
   refine ai 7 (.pointer (some ⟨g,7,none⟩)) rfl hHeld ?_
   try go_frame
   refine aV 3 (.pointer (some ⟨p,0,none⟩)) rfl (yA (by intro w hS;have hc:=(hS.cell (p:=⟨g,0,none⟩) kz).trans c0.out;go_simp)) hHeld ?_
   try go_frame
   refine aV 8 (.int .i64 ep) rfl (yA (by intro w hS;have hc:=(hS.cell (p:=⟨g,7,none⟩) kz).trans c7.out;go_simp)) hHeld ?_
   try go_frame
   refine bR 4 rfl (fun K hK=>?_)
   go_simp
   go_at_call 62
   refine(zb _ base F p D (HD.out.below hHeld)).mono ?_
   rintro e w4 ⟨rfl,rfl⟩
   go_wp2_with fail
   refine hK.out _ _ (hHeld) ?_
   clear hK K hHeld
   intro hHeld
   try go_frame
   refine aV 9 (.bool false) rfl (yA (by intro w hS;(have he2:=he;go_simp))) hHeld ?_
   try go_frame
   refine dY ?_
   have c02:=HC0.out _ hHeld
   go_wp2_with fail
   refine(Mn.out _ hHeld).mono ?_
   rintro e w5 ⟨rfl,rfl⟩
   cases hp:D.power
   · rw [hp]at HL
     go_wp2
     go_ret
     exact⟨by rw [HL.out];rfl,hHeld⟩
   · rw [hp]at HL
     go_wp2
     go_ret
     exact⟨by rw [HL.out];rfl,hHeld⟩
 · have HL:=aa (show ak D ep=3 by unfold ak;rw [if_pos he])
   have he:(D.ag !=ep)=true:=by simpa using he
   go_enter Tryz.func31,Tryz.ntmps31
   go_wp2
   refine wp_region_noPanic ?_
   refine wp_region_held_drew (S:=fun w'=>Below w.heap.size w w') (by kernel_rfl) (Below.refl _ _).drew (fun hHeld=>?_)
   refine ai 0 (.pointer (some ⟨g,0,none⟩)) rfl hHeld ?_
   try go_frame
   refine ai 5 (.pointer (some ⟨g,0,none⟩)) rfl hHeld ?_
   try go_frame
   refine ai 1 (.pointer (some ⟨g,0,none⟩)) rfl hHeld ?_
   try go_frame
   refine ai 6 (.pointer (some ⟨g,0,none⟩)) rfl hHeld ?_
   try go_frame
   refine ai 2 (.pointer (some ⟨g,0,none⟩)) rfl hHeld ?_
   try go_frame
   refine ai 7 (.pointer (some ⟨g,7,none⟩)) rfl hHeld ?_
   try go_frame
   refine aV 3 (.pointer (some ⟨p,0,none⟩)) rfl (yA (by intro w hS;have hc:=(hS.cell (p:=⟨g,0,none⟩) kz).trans c0.out;go_simp)) hHeld ?_
   try go_frame
   refine aV 8 (.int .i64 ep) rfl (yA (by intro w hS;have hc:=(hS.cell (p:=⟨g,7,none⟩) kz).trans c7.out;go_simp)) hHeld ?_
   try go_frame
   refine bR 4 rfl (fun K hK=>?_)
   go_simp
   go_at_call 62
   refine(zb _ base F p D (HD.out.below hHeld)).mono ?_
   rintro e w4 ⟨rfl,rfl⟩
   go_wp2_with fail
   refine hK.out _ _ (hHeld) ?_
   clear hK K hHeld
   intro hHeld
   try go_frame
   refine aV 9 (.bool true) rfl (yA (by intro w hS;(have he2:=he;go_simp))) hHeld ?_
   try go_frame
   refine dY ?_
   go_wp2
   go_ret
   exact⟨by rw [HL.out];rfl,hHeld⟩
theorem wJ(w:World)(g p:Nat)(s:aD)(nx ep:Int)(hf:FK w g p s nx ep):
   Calls Tryz.prog 79 #[.pointer (some ⟨g,0,none⟩)] w fun e w'=>e= .returned (.agg (ae s))/\Below w.heap.size w w':=by
 have kz:g<w.heap.size:=aC hf
 have r0:=aF w (.cells (ae sup0) 40)
 have b0:=aq w (.cells (ae sup0) 40)
 have HR:Hid ((w.alloc (.cells (ae sup0) 40)).rangeAt g 1 (gL s)):=aa (fun j v hv=>by
   rw [show(w.alloc (.cells (ae sup0) 40)).cell? ⟨g,1+j,none⟩=w.cell? ⟨g,1+j,none⟩from b0.cell (p:=⟨g,1+j,none⟩) kz,hf.cell]
   rcases j with _| _| _| _| _| j<;>first| exact hv| (simp [gL]at hv))
 go_enter Tryz.func79,Tryz.ntmps79
 go_wp2_with (first
   | (refine dQ (by rfl) 40 (.tmp 5) (by rfl) g 1 (by rfl) (gL s) _ (by exact HR.out) Tryz.underlying40 rfl (by rw [cj];rfl) ?_)
   | (refine wpList_store_row (by rfl) 40 (.tmp 2) (.tmp 6) (by rfl) w.heap.size (ae s) (by rfl) (by rfl) 40 (ae sup0) (by exact r0) (bQ _) (jB _ _) (ew _) ?_))
 exact bodyPost_ret (v:= .agg (ae s)) (results_cell_row Tryz.results79 _ _ w.heap.size 40 _ _ _ rfl (setRow_heap _ _ _ _ _ _ r0) Tryz.underlying40 rfl (by rw [cj];rfl)) rfl ⟨rfl,below_setRow b0 (Nat.le_refl _) _⟩
theorem Ku(w:World)(base:Nat)(F:List Nat)(p:Nat)(D:DS)(h:DA w base F p D)(cM:D.power=true)(hr:D.reads<3999999999999999999)(x:Int)(hx:(aM (D.aj 0) (D.aj 1)).2=x)(hx0:x≠0):
   Calls Tryz.prog 12 #[.pointer (some ⟨p,0,none⟩)] w fun e w'=>e= .returned (.tuple #[.pointer none, .int .i64 x])/\DA w' base F p {D with reads:=D.reads+2}/\Fr F w w':=by
 have oH:=aa (lR w base F p D h cM hr)
 have hz:(x !=0)=true:=by simpa using hx0
 have HX:=aa hx
 clear h cM hr hx hx0
 go_enter Tryz.func12,Tryz.ntmps12
 go_wp2_with fail
 refine oH.out.mono ?_
 rintro e w1 ⟨rfl,hD1,hF1⟩
 rw [HX.out]
 generalize (aM (D.aj 0) (D.aj 1)).1=S at*
 have HD1:=aa hD1
 have HF1:=aa hF1
 clear hD1 hF1 oH HX
 go_wp2_with (first
   | (refine wpList_store_row (by rfl) 40 (.tmp 4) (.tmp 11) (by rfl) w1.heap.size (ae S) (by rfl) (by rfl) 40 _ (by exact aF _ _) (bQ S) (jP S) (ew S) ?_;rw [aP]))
 go_ret2
 exact⟨rfl,HD1.out.below (aq _ _),HF1.out.tail (F':=F) (aq _ _)⟩
theorem Ej(w:World)(base:Nat)(F:List Nat)(p:Nat)(D:DS)(h:DA w base F p D)(cM:D.power=true)(hr:D.reads<3999999999999999999)(je:D.ag<4000000000000000000)(s:aD)(hs:aM (D.aj 0) (D.aj 1)=(s,0))(fY:s.pg=(D.np:Int)):
   Calls Tryz.prog 12 #[.pointer (some ⟨p,0,none⟩)] w fun e w'=> ∃g,e= .returned (.tuple #[.pointer (some ⟨g,0,none⟩), .int .i64 0])/\w.heap.size<=g/\FK w' g p s s.ma (D.ag+1)/\DA w' base F p {D with reads:=D.reads+2,ag:=D.ag+1}/\Fr F w w':=by
 have oH:=aa (lR w base F p D h cM hr)
 have HX:=aa hs
 have hpq:Hid ((s.pg !=((({D with reads:=D.reads+2}:DS).np:Nat):Int))=false):=aa (by rw [show({D with reads:=D.reads+2}:DS).np=D.np from rfl,fY];simp)
 clear h cM hr hs fY
 go_enter Tryz.func12,Tryz.ntmps12
 go_wp2_with fail
 refine oH.out.mono ?_
 rintro e w1 ⟨rfl,hD1,hF1⟩
 rw [HX.out]
 have HD1:=aa hD1
 have HF1:=aa hF1
 clear hD1 hF1 oH HX
 go_wp2_with (first
   | (refine wpList_store_row (by rfl) 40 (.tmp 4) (.tmp 11) (by rfl) w1.heap.size (ae s) (by rfl) (by rfl) 40 _ (by exact aF _ _) (bQ s) (jP s) (ew s) ?_;rw [aP];have R4:=aa (aF w1 (.cells (ae s) 40));have HD2:=aa (HD1.out.below (aq w1 (.cells (ae s) 40)));have HF2:=aa (HF1.out.tail (F':=F) (aq w1 (.cells (ae s) 40)));generalize hw2:w1.alloc (.cells (ae s) 40)=w2 at*;generalize w1.heap.size=G4 at*))
 refine wp_region_noPanic ?_
 refine wp_region_held_drew (S:=fun w'=>w'.heap[G4]? =some (.cells (ae s) 40 (0,0))) (by kernel_rfl) R4.out (fun hHeld=>?_)
 refine ai 0 (.pointer (some ⟨G4,4,none⟩)) rfl hHeld ?_
 try go_frame
 refine ai 2 (.pointer (some ⟨p,0,none⟩)) rfl hHeld ?_
 try go_frame
 refine aV 1 (.int .i64 s.pg) rfl (yA (by intro w hS;have hc:=zj hS;go_simp)) hHeld ?_
 try go_frame
 refine bR 3 rfl (fun K hK=>?_)
 go_simp
 go_at_call 29
 refine(kA _ base F p _ (HD2.out.drew)).mono ?_
 rintro e w4 ⟨rfl,rfl⟩
 go_wp2_with fail
 refine hK.out _ _ (hHeld) ?_
 clear hK K hHeld
 intro hHeld
 try go_frame
 refine aV 4 (.bool false) rfl (yA (by intro w hS;(have he2:=hpq.out;go_simp))) hHeld ?_
 try go_frame
 refine dY ?_
 go_wp2
 have R4:=aa hHeld
 have HD3:=aa HD2.out.drew
 have HF3:=aa HF2.out.drew
 have hn4:G4∉F:=HD3.out.cS R4.out (by decide) (by decide) (by decide)
 clear HD2 HF2 hHeld
 refine wp_region_noPanic ?_
 refine wp_region_held_drew (S:=fun w'=>w'.heap[G4]? =some (.cells (ae s) 40 (0,0))) (by kernel_rfl) R4.out (fun hHeld=>?_)
 refine ai 0 (.pointer (some ⟨p,0,none⟩)) rfl hHeld ?_
 try go_frame
 refine aV 1 (.agg (ae s)) rfl (fR (by rfl) (.tmp 4) rfl G4 rfl s (fun w1 hS=>hS)) hHeld ?_
 try go_frame
 refine ai 2 (.pointer (some ⟨G4,2,none⟩)) rfl hHeld ?_
 try go_frame
 refine ai 4 (.pointer (some ⟨p,0,none⟩)) rfl hHeld ?_
 try go_frame
 refine aV 3 (.int .i64 s.ma) rfl (yA (by intro w hS;have hc:=sP hS;go_simp)) hHeld ?_
 try go_frame
 refine bR 5 rfl (fun K hK=>?_)
 go_simp
 go_at_call 30
 refine(Fw _ base F p _ (HD3.out.drew) je).mono ?_
 rintro e w4 ⟨rfl,hD4,hF4⟩
 go_wp2_with fail
 refine hK.out _ _ (hF4.keep hHeld hn4) ?_
 clear hK K hHeld
 intro hHeld
 try go_frame
 refine aV 6 (.agg (kT p s s.ma (D.ag+1))) rfl (uj (by rfl) (.tmp 21) (.tmp 22) (.tmp 24) (.tmp 26) rfl p s s.ma (D.ag+1) rfl rfl rfl rfl) hHeld ?_
 try go_frame
 refine bR 7 rfl (fun K hK=>?_)
 refine Ac (by rfl) (.tmp 27) rfl p s s.ma (D.ag+1) rfl ?_
 refine hK.out _ _ (hold hHeld) ?_
 clear hK K hHeld
 intro hHeld
 try go_frame
 refine ai 8 (.pointer (some ⟨w4.heap.size,0,none⟩)) rfl hHeld ?_
 try go_frame
 refine ai 9 (.int IntKind.i64 0) rfl hHeld ?_
 try go_frame
 refine dY ?_
 go_wp2
 go_ret2
 exact⟨w4.heap.size,rfl,Nat.le_trans HF3.out.size hF4.size,aF _ _,hD4.below (aq _ _),(HF3.out.drew.trans hF4 (Gr.refl _ _)).tail (F':=F) (aq _ _)⟩
end Go.Proofs.YtpdakmhnnkaafaaGreat
namespace Go.Proofs.YtpdakmhnnkaafaaGreat
set_option maxRecDepth 100000
set_option maxHeartbeats 40000000
set_option linter.unusedVariables false
set_option linter.unusedSimpArgs false
open Go.RowKit
theorem jf{D D':DS}(h:D'.af.length=D.af.length):D'.np=D.np:=by unfold DS.np;rw [h]
theorem kU(D:DS)(o:OW):(D.wr o).af=D.af/\(D.wr o).ops=D.ops++ [o]/\(D.wr o).ag=D.ag/\(D.wr o).reads=D.reads/\(D.wr o).writes=D.writes+1/\(D.wr o).aA=D.aA:=by
 obtain⟨e1,e2,e3,e4,e5,e6⟩:=ez {D.dK o with writes:=D.writes+1}
 exact⟨e1,e2,e3,e4,e5,e6⟩
theorem mf(D:DS)(h:0<=D.armed):D.bn.armed=(if D.armed=0 then 0 else D.armed-1)/\(D.armed≠1->D.bn.power=D.power)/\(D.armed=1->D.bn.power=false):=by
 unfold DS.bn
 by_cases c:D.armed=0
 · rw [if_pos c,if_pos c];exact⟨c,fun _=>rfl,fun q=>by omega⟩
 · rw [if_neg c,if_neg c]
   by_cases e:D.armed=1
   · rw [if_pos e];exact⟨by show(0:Int)=_;omega,fun q=>absurd e q,fun _=>rfl⟩
   · rw [if_neg e];exact⟨rfl,fun _=>rfl,fun q=>absurd q e⟩
theorem ny(D:DS)(o:OW)(h:0<=D.armed):(D.wr o).armed=(if D.armed=0 then 0 else D.armed-1)/\(D.armed≠1->(D.wr o).power=D.power)/\(D.armed=1->(D.wr o).power=false):=mf {D.dK o with writes:=D.writes+1} h
theorem wK{D:DS}(h:D.armed≠1):D.eW=0:=by unfold DS.eW;rw [if_neg h]
theorem wL{D:DS}(h:D.armed=1):D.eW=2:=by unfold DS.eW;rw [if_pos h]
theorem tU{D:DS}(hok:cC D):D.synced.np=D.np:=by
 obtain⟨h3,h4,hn,hop⟩:=hok.np
 exact jf (by show(dL D.af D.ops D.ops.length).length=_;rw [iK hn hop _ (Nat.le_refl _),hn])
theorem lJ(D:DS)(h:0<=D.armed)(h1:D.armed≠1):D.synced.armed=(if D.armed=0 then 0 else D.armed-1)/\D.synced.power=D.power:=⟨(mf D h).1,(mf D h).2.1 h1⟩
theorem uW{D:DS}(hok:cC D)(q:Nat)(d:List Int)(h1:D.ops= [⟨q,d⟩])(hq:q<D.np):bO D.synced.af q=d/\ ∀r,r<D.np->r≠q->bO D.synced.af r=bO D.af r:=by
 have key:=fun r hr=>zg hok r hr
 have e: ∀r,D.aj r=if q=r then d else bO D.af r:=fun r=>by
   have:=uA (D:={D with ops:= []}) (D':=D) (o:=⟨q,d⟩) rfl (by rw [h1];rfl) r
   rw [this,iT rfl]
 refine⟨(key q hq).trans (by rw [e,if_pos rfl]),fun r hr hne=>(key r hr).trans (by rw [e,if_neg (fun x=>hne x.symm)])⟩
structure Fm (D' D:DS) (wd:Int):Prop where
 ok:cC D'
 np:D'.np=D.np
 ops:D'.ops= []
 pw:D'.power=true
 arm:D'.armed=(if D.armed=0 then 0 else D.armed-4)
 ag:D'.ag=D.ag
 reads:D'.reads=D.reads
 writes:D'.writes=D.writes+2
 aA:D'.aA=D.aA+2
 p0:bO D'.af 0=dI (fS D.np wd 0)
 p1:bO D'.af 1=dI (fS D.np wd 1)
 rest: ∀q,2<=q->q<D.np->bO D'.af q=bO D.af q
def Half(L0 L1:List Int)(s0 s1:aD):Prop:=Blank L0 L1\/Good s1 s0 L0 L1
theorem Fy{L0 L1 T:List Int}(h:Blank L0 L1)(hT:T.length=192)(s0:aD)(hv:aJ s0=true)(hg:s0.ge=0)(b:Bool):Blank ((if b then dI s0 else L0).take 64++T) L1:=by
 obtain⟨Y,Z,hY,hZ,rfl,h0⟩:=h
 refine⟨T,Z,hT,hZ,rfl,?_⟩
 cases b with
 | true=>exact Or.inr ⟨s0,hv,hg,by show(dI s0).take 64++T=_;rw [zi]⟩
 | false=>
   rcases h0 with rfl| ⟨s,hs,Vt,rfl⟩
   · exact Or.inl (by show(zz 64++Y).take 64++T=_;rw [List.take_left' (by simp [zz])])
   · exact Or.inr ⟨s,hs,Vt,by show(dv s++Y).take 64++T=_;rw [List.take_left' (eJ s)]⟩
theorem Hp(n:Nat)(wd:Int):vS (fS n wd 1) (fS n wd 0):=⟨rfl,rfl,rfl,Int.le_refl _⟩
theorem NG{D:DS}(hok:cC D)(ho:D.ops= [])(hp:D.power=true)(iU:mN D 4)(wd:Int)(hw:1<=wd/\wd<=32)(hB:Blank (bO D.af 0) (bO D.af 1)):
   ((D.armed=0\/4<D.armed)->(aX D [.lay (fS D.np wd 0) 0 0, .sync, .lay (fS D.np wd 1) 0 0, .sync]).2=0/\Fm (aX D [.lay (fS D.np wd 0) 0 0, .sync, .lay (fS D.np wd 1) 0 0, .sync]).1 D wd)∧
   ((1<=D.armed/\D.armed<=4)->(aX D [.lay (fS D.np wd 0) 0 0, .sync, .lay (fS D.np wd 1) 0 0, .sync]).2=2/\cC (aX D [.lay (fS D.np wd 0) 0 0, .sync, .lay (fS D.np wd 1) 0 0, .sync]).1/\(aX D [.lay (fS D.np wd 0) 0 0, .sync, .lay (fS D.np wd 1) 0 0, .sync]).1.np=D.np/\(aX D [.lay (fS D.np wd 0) 0 0, .sync, .lay (fS D.np wd 1) 0 0, .sync]).1.ag=D.ag/\(aX D [.lay (fS D.np wd 0) 0 0, .sync, .lay (fS D.np wd 1) 0 0, .sync]).1.reads=D.reads/\(aX D [.lay (fS D.np wd 0) 0 0, .sync, .lay (fS D.np wd 1) 0 0, .sync]).1.writes<=D.writes+2/\(aX D [.lay (fS D.np wd 0) 0 0, .sync, .lay (fS D.np wd 1) 0 0, .sync]).1.aA<=D.aA+2∧
     ∀fs:List Int,Half (bO ((aX D [.lay (fS D.np wd 0) 0 0, .sync, .lay (fS D.np wd 1) 0 0, .sync]).1.crashed fs).af 0) (bO ((aX D [.lay (fS D.np wd 0) 0 0, .sync, .lay (fS D.np wd 1) 0 0, .sync]).1.crashed fs).af 1) (fS D.np wd 0) (fS D.np wd 1)):=by
 obtain⟨h3,h4,hn,_⟩:=hok.np
 have hv0:aJ (fS D.np wd 0)=true:=lI h3 h4 hw ⟨by omega,by omega⟩
 have hv1:aJ (fS D.np wd 1)=true:=lI h3 h4 hw ⟨by omega,by omega⟩
 have ha:=hok.armed.1
 obtain⟨n,hnn⟩: ∃n,n=D.np:=⟨_,rfl⟩
 rw [<-hnn]at hv0 hv1 h3 h4⊢
 obtain⟨D1,hD1⟩: ∃D1,D1=D.wr ⟨0,dI (fS n wd 0)⟩:=⟨_,rfl⟩
 have e1:=kU D ⟨0,dI (fS n wd 0)⟩
 have a1:=ny D ⟨0,dI (fS n wd 0)⟩ ha
 have ok1:=vZ hok (o:=⟨0,dI (fS n wd 0)⟩) ⟨by show 0<D.np;omega,nw _,oD hv0⟩ (by have:=iU.ops;omega) (by have:=iU.writes;omega)
 rw [<-hD1]at e1 a1 ok1
 rw [ho,List.nil_append]at e1
 have np1:D1.np=n:=(jf (by rw [e1.1])).trans hnn.symm
 have st1:St.go (.lay (fS n wd 0) 0 0) D=(D1,D.eW):=by rw [hD1];rfl
 obtain⟨D2,hD2⟩: ∃D2,D2=D1.synced:=⟨_,rfl⟩
 have ok2:=mb ok1 (by rw [e1.2.2.2.2.2];have:=iU.aA;omega)
 have np2:=(tU ok1).trans np1
 have p2:=uW ok1 0 _ e1.2.1 (by omega)
 rw [<-hD2]at ok2 np2 p2
 have s2:D2.ops= []/\D2.ag=D.ag/\D2.reads=D.reads/\D2.writes=D.writes+1/\D2.aA=D.aA+1:=by
   obtain⟨c1,c2,c3,c4,c5,c6⟩:=ez D1
   rw [hD2]
   exact⟨rfl,c3.trans e1.2.2.1,c4.trans e1.2.2.2.1,c5.trans e1.2.2.2.2.1,by show D1.aA+1=_;rw [e1.2.2.2.2.2]⟩
 obtain⟨D3,hD3⟩: ∃D3,D3=D2.wr ⟨1,dI (fS n wd 1)⟩:=⟨_,rfl⟩
 have e3:=kU D2 ⟨1,dI (fS n wd 1)⟩
 have ok3:=vZ ok2 (o:=⟨1,dI (fS n wd 1)⟩) ⟨by show 1<D2.np;omega,nw _,oD hv1⟩ (by rw [s2.1];decide) (by rw [s2.2.2.2.1];have:=iU.writes;omega)
 rw [<-hD3]at e3 ok3
 rw [s2.1,List.nil_append]at e3
 have np3:D3.np=n:=(jf (by rw [e3.1])).trans np2
 have st3:St.go (.lay (fS n wd 1) 0 0) D2=(D3,D2.eW):=by rw [hD3];rfl
 obtain⟨D4,hD4⟩: ∃D4,D4=D3.synced:=⟨_,rfl⟩
 have ok4:=mb ok3 (by rw [e3.2.2.2.2.2,s2.2.2.2.2];have:=iU.aA;omega)
 have np4:=(tU ok3).trans np3
 have p4:=uW ok3 1 _ e3.2.1 (by omega)
 rw [<-hD4]at ok4 np4 p4
 have uy: ∀X:DS,X.armed≠1->St.go .sync X=(X.synced,0):=fun X hX=>by show sy X=_;unfold sy;rw [if_neg hX]
 have hsz: ∀X:DS,X.armed=1->St.go .sync X=(X.bn,2):=fun X hX=>by show sy X=_;unfold sy;rw [if_pos hX]
 have Mo:bO D3.af 0=dI (fS n wd 0):=by rw [e3.1];exact p2.1
 have Rz:bO D3.af 1=bO D.af 1:=by rw [e3.1,p2.2 1 (by omega) (by omega),e1.1]
 have first: ∀X:DS,cC X->X.af=D.af->X.ops= [⟨0,dI (fS n wd 0)⟩]-> ∀fs,Half (bO (X.crashed fs).af 0) (bO (X.crashed fs).af 1) (fS n wd 0) (fS n wd 1):=by
   intro X hX hi hx fs
   have Vu:X.np=n:=(jf (by rw [hi])).trans hnn.symm
   obtain⟨b,T,hT,hT8,hE⟩:=zh hX fs 0 (by omega) _ hx
   have h1:=wH hX fs 1 (by omega) (fun o ho=>by rw [hx,List.mem_singleton]at ho;rw [ho];exact(by decide:(0:Nat)≠1))
   left
   show Blank (bO (bP X.af X.ops fs X.ops.length) 0) (bO (bP X.af X.ops fs X.ops.length) 1)
   rw [hE,h1,hi]
   exact Fy hB hT _ hv0 rfl b
 have second: ∀X:DS,cC X->X.af=D3.af->X.ops= [⟨1,dI (fS n wd 1)⟩]-> ∀fs,Half (bO (X.crashed fs).af 0) (bO (X.crashed fs).af 1) (fS n wd 0) (fS n wd 1):=by
   intro X hX hi hx fs
   have Vu:X.np=n:=(jf (by rw [hi])).trans np3
   obtain⟨b,T,hT,hT8,hE⟩:=zh hX fs 1 (by omega) _ hx
   have h0:=wH hX fs 0 (by omega) (fun o ho=>by rw [hx,List.mem_singleton]at ho;rw [ho];exact(by decide:(1:Nat)≠0))
   show Half (bO (bP X.af X.ops fs X.ops.length) 0) (bO (bP X.af X.ops fs X.ops.length) 1) _ _
   rw [hE,h0,hi,Mo,Rz]
   cases b with
   | true=>
     right
     show Good _ _ _ ((dI (fS n wd 1)).take 64++T)
     rw [zi]
     exact Good.first hv0 hv1 (Hp n wd) rfl List.length_replicate hT (lG _) hT8
   | false=>
     left
     obtain⟨Y,Z,hY,hZ,h1,_⟩:=hB
     refine⟨List.replicate 192 0,T,List.length_replicate,hT,?_,Or.inr ⟨_,hv0,rfl,rfl⟩⟩
     show(bO D.af 1).take 64++T=_
     rw [h1,List.take_left' (by simp [zz])]
 have arm1:=a1.1
 have r0:aX D [.lay (fS n wd 0) 0 0, .sync, .lay (fS n wd 1) 0 0, .sync]=if D.eW=0 then aX D1 [.sync, .lay (fS n wd 1) 0 0, .sync]else(D1,D.eW):=by
   rw [aX,st1]
 by_cases k1:D.armed=1
 · have hr:aX D [.lay (fS n wd 0) 0 0, .sync, .lay (fS n wd 1) 0 0, .sync]=(D1,2):=by rw [r0,wL k1];rfl
   rw [hr]
   exact⟨fun q=>by omega,fun _=>⟨rfl,ok1,np1,e1.2.2.1,e1.2.2.2.1,by show D1.writes<=_;omega,by show D1.aA<=_;omega,first D1 ok1 e1.1 e1.2.1⟩⟩
 rw [wK k1,if_pos rfl]at r0
 by_cases k2:D.armed=2
 · have b1:D1.armed=1:=by rw [arm1,if_neg (by omega)];omega
   have hr:aX D [.lay (fS n wd 0) 0 0, .sync, .lay (fS n wd 1) 0 0, .sync]=(D1.bn,2):=by rw [r0,aX,hsz D1 b1];rfl
   rw [hr]
   obtain⟨c1,c2,c3,c4,c5,c6⟩:=ez D1
   exact⟨fun q=>by omega,fun _=>⟨rfl,ij ok1,(jf (by rw [c1])).trans np1,c3.trans e1.2.2.1,c4.trans e1.2.2.2.1,by show D1.bn.writes<=_;omega,by show D1.bn.aA<=_;omega,first D1.bn (ij ok1) (c1.trans e1.1) (c2.trans e1.2.1)⟩⟩
 have b1:D1.armed≠1:=by rw [arm1];split<;>omega
 have n1:0<=D1.armed:=ok1.armed.1
 have arm2:D2.armed=(if D1.armed=0 then 0 else D1.armed-1):=by rw [hD2];exact(lJ D1 n1 b1).1
 have r1:aX D [.lay (fS n wd 0) 0 0, .sync, .lay (fS n wd 1) 0 0, .sync]=aX D2 [.lay (fS n wd 1) 0 0, .sync]:=by rw [r0,aX,uy D1 b1,if_pos rfl,hD2]
 have n2:0<=D2.armed:=ok2.armed.1
 by_cases k3:D.armed=3
 · have b2:D2.armed=1:=by rw [arm2,arm1,if_neg (by omega),if_neg (by omega)];omega
   have hr:aX D [.lay (fS n wd 0) 0 0, .sync, .lay (fS n wd 1) 0 0, .sync]=(D3,2):=by rw [r1,aX,st3,wL b2];rfl
   rw [hr]
   exact⟨fun q=>by omega,fun _=>⟨rfl,ok3,np3,e3.2.2.1.trans s2.2.1,e3.2.2.2.1.trans s2.2.2.1,by show D3.writes<=_;omega,by show D3.aA<=_;omega,second D3 ok3 rfl e3.2.1⟩⟩
 have b2:D2.armed≠1:=by rw [arm2,arm1];split<;>split at* <;>omega
 have arm3:D3.armed=(if D2.armed=0 then 0 else D2.armed-1):=by rw [hD3];exact(ny D2 _ n2).1
 have r2:aX D [.lay (fS n wd 0) 0 0, .sync, .lay (fS n wd 1) 0 0, .sync]=aX D3 [.sync]:=by rw [r1,aX,st3,wK b2,if_pos rfl]
 have n3:0<=D3.armed:=ok3.armed.1
 have hpw3:D3.power=true:=by
   rw [hD3,(ny D2 _ n2).2.1 b2,hD2,(lJ D1 n1 b1).2,a1.2.1 k1,hp]
 by_cases k4:D.armed=4
 · have b3:D3.armed=1:=by rw [arm3,arm2,arm1,if_neg (by omega),if_neg (by omega),if_neg (by omega)];omega
   have hr:aX D [.lay (fS n wd 0) 0 0, .sync, .lay (fS n wd 1) 0 0, .sync]=(D3.bn,2):=by rw [r2,aX,hsz D3 b3];rfl
   rw [hr]
   obtain⟨c1,c2,c3,c4,c5,c6⟩:=ez D3
   exact⟨fun q=>by omega,fun _=>⟨rfl,ij ok3,(jf (by rw [c1])).trans np3,c3.trans (e3.2.2.1.trans s2.2.1),c4.trans (e3.2.2.2.1.trans s2.2.2.1),by show D3.bn.writes<=_;omega,by show D3.bn.aA<=_;omega,second D3.bn (ij ok3) c1 (c2.trans e3.2.1)⟩⟩
 have b3:D3.armed≠1:=by rw [arm3,arm2,arm1];split<;>(try split at*)<;>(try split at*)<;>omega
 have hr:aX D [.lay (fS n wd 0) 0 0, .sync, .lay (fS n wd 1) 0 0, .sync]=(D4,0):=by rw [r2,aX,uy D3 b3,if_pos rfl,hD4];rfl
 rw [hr]
 obtain⟨c1,c2,c3,c4,c5,c6⟩:=ez D3
 refine⟨fun q=>⟨rfl,⟨ok4,np4.trans hnn,by rw [hD4];rfl,by rw [hD4];exact(lJ D3 n3 b3).2.trans hpw3,?_,by rw [hD4];exact c3.trans (e3.2.2.1.trans s2.2.1),by rw [hD4];exact c4.trans (e3.2.2.2.1.trans s2.2.2.1),?_,?_,?_,?_,?_⟩⟩,fun q=>by omega⟩
 · show D4.armed=_
   rw [hD4,(lJ D3 n3 b3).1,arm3,arm2,arm1]
   rcases q with q| q
   · simp [q]
   · rw [if_neg (by omega),if_neg (by omega),if_neg (by omega),if_neg (by omega),if_neg (by omega)];omega
 · show D4.writes=_
   rw [hD4];show D3.bn.writes=_;omega
 · show D4.aA=_
   rw [hD4];show D3.aA+1=_;omega
 · show bO D4.af 0=_
   rw [p4.2 0 (by omega) (by omega),Mo,hnn]
 · show bO D4.af 1=_
   rw [p4.1,hnn]
 · intro r hr2 XP
   show bO D4.af r=_
   rw [p4.2 r (by omega) (by omega),e3.1,p2.2 r (by omega) (by omega),e1.1]
end Go.Proofs.YtpdakmhnnkaafaaGreat
namespace Go.Proofs.YtpdakmhnnkaafaaGreat
set_option maxRecDepth 100000
set_option maxHeartbeats 40000000
set_option linter.unusedVariables false
set_option linter.unusedSimpArgs false
open Go.RowKit
attribute [local go_sem ↓] Go.wp_at_zero Go.wp_at_succ
theorem Nx.go{B:Nat}{F:List Nat}{p:Nat}{w w0 w':World}{D D':DS}(hD:DA w B F p D)(hB:Below B w0 w)(h0:B<=w0.heap.size)(h:Nx B F p w D' w'): ∃F',DA w' B F' p D'/\Below B w0 w'/\Fr F w w':=by
 obtain⟨F',q1,q2,q3⟩:=h
 exact⟨F',q1,hB.trans (q2.below (fun k hk=>(hD.lt k hk).1) (Nat.le_trans h0 hB.size)),q2⟩
theorem Bg:Blank (zz 256) (zz 256):=⟨zz 192,zz 192,gT _,gT _,by decide+kernel,Or.inl (by decide+kernel)⟩
structure Rest (D:DS) (n:Nat) (ep:Int):Prop where
 ok:cC D
 np:D.np=n
 ops:D.ops= []
 pw:D.power=true
 arm:D.armed=0
 ag:D.ag=ep
 reads:D.reads<=1000
 writes:D.writes<=1000
 aA:D.aA<=1000
theorem Rest.Mm{D:DS}{n:Nat}{ep:Int}(h:Rest D n ep):mN D 4:=⟨h.pw,by rw [h.ops];decide,by have:=h.writes;omega,by have:=h.aA;omega⟩
theorem Good.tV{D:DS}{s o:aD}(ho:D.ops= [])(h:Good s o (bO D.af 0) (bO D.af 1)):aM (D.aj 0) (D.aj 1)=(s,0):=by
 rw [iT ho,iT ho];exact h.choose.1
theorem Blank.tV{D:DS}(ho:D.ops= [])(h:Blank (bO D.af 0) (bO D.af 1)):aM (D.aj 0) (D.aj 1)=(sup0,55):=by
 rw [iT ho,iT ho];exact h.choose
theorem Fm.good{D D':DS}{wd:Int}(h:Fm D' D wd)(hw:1<=wd/\wd<=32):Good (fS D.np wd 1) (fS D.np wd 0) (bO D'.af 0) (bO D'.af 1):=by
 have hn:=h.ok.np
 rw [h.np]at hn
 rw [h.p0,h.p1]
 exact Good.first (lI hn.1 hn.2.1 hw ⟨by omega,by omega⟩) (lI hn.1 hn.2.1 hw ⟨by omega,by omega⟩) (Hp _ _) rfl List.length_replicate List.length_replicate (lG _) (lG _)
theorem uB(w:World)(base:Nat)(F:List Nat)(p:Nat)(D:DS)(h:DA w base F p D)(cX:base<=w.heap.size)(n:Nat)(ep:Int)(hR:Rest D n ep)(wd:Int)(hwd:1<=wd/\wd<=32)(hB:Blank (bO D.af 0) (bO D.af 1)):
   Calls Tryz.prog 27 #[.pointer (some ⟨p,0,none⟩), .int .i64 wd] w fun e w'=>e= .returned (.int .i64 0)/\ ∃D',Fm D' {D with reads:=D.reads+2} wd/\D'.np=n/\Nx base F p w D' w':=by
 have hr2:cC {D with reads:=D.reads+2}:=⟨hR.ok.n,hR.ok.bts,hR.ok.ops,by show 0<=D.reads+2/\D.reads+2<=_;have:=hR.ok.reads;have:=hR.reads;omega,hR.ok.writes,hR.ok.aA,hR.ok.ag,hR.ok.armed⟩
 have iU:=hR.Mm
 refine(Ho w base F p D h cX hR.pw (by have:=hR.reads;omega) hR.Mm wd hwd (fS D.np wd 0) (fS D.np wd 1) rfl rfl (by rw [hB.tV hR.ops])).mono ?_
 rintro e w' ⟨rfl,hN⟩
 obtain⟨q1,q2⟩:=(NG (D:={D with reads:=D.reads+2}) hr2 hR.ops hR.pw ⟨iU.pw,iU.ops,iU.writes,iU.aA⟩ wd hwd hB).1 (Or.inl hR.arm)
 exact⟨by rw [show(aX {D with reads:=D.reads+2} [St.lay (fS D.np wd 0) 0 0,St.sync,St.lay (fS D.np wd 1) 0 0,St.sync]).2=0 from q1],_,q2,q2.np.trans hR.np,hN⟩
def nz(base:Nat)(F:List Nat)(p g:Nat)(w:World)(D':DS)(s:aD)(nx ep:Int)(w':World):Prop:= ∃F',DA w' base F' p D'/\FK w' g p s nx ep/\Fr (g::F) w w'/\Gr w F F'
theorem FK.drew{w:World}{g p:Nat}{s:aD}{nx ep:Int}(h:FK w g p s nx ep):FK w.drew g p s nx ep:=h
theorem Fr.wide{F:List Nat}{w w1:World}(h:Fr F w w1)(g:Nat):Fr (g::F) w w1:=⟨h.os,h.tape,h.output,h.size,fun k hk hn=>h.block k hk (fun e=>hn (List.mem_cons_of_mem _ e))⟩
theorem FK.c0{w:World}{g p:Nat}{s:aD}{nx ep:Int}(h:FK w g p s nx ep):w.cell? ⟨g,0,none⟩=some (.pointer (some ⟨p,0,none⟩)):=h.cell 0
theorem FK.c6{w:World}{g p:Nat}{s:aD}{nx ep:Int}(h:FK w g p s nx ep):w.cell? ⟨g,6,none⟩=some (.int .i64 nx):=h.cell 6
theorem FK.set{w:World}{g p:Nat}{s:aD}{nx ep:Int}(h:FK w g p s nx ep)(x:Int):FK (w.setCell ⟨g,6,none⟩ (.int .i64 x)) g p s x ep:=by
 unfold FK
 rw [heap_setCell_same _ _ _ _ _ _ h];rfl
theorem FK.fz{w:World}{g p:Nat}{s:aD}{nx ep:Int}(h:FK w g p s nx ep)(j:Nat):w.frozen? ⟨g,j,none⟩=false:=frozen_of_row _ _ _ _ _ h
theorem DA.qI{w:World}{base:Nat}{F:List Nat}{p:Nat}{D:DS}(h:DA w base F p D){g:Nat}(hg:g∉F)(j:Nat)(v:Value):DA (w.setCell ⟨g,j,none⟩ v) base F p D:=
 h.of_heap fun k hk=>heap_setCell_other w ⟨g,j,none⟩ k v (fun e=>hg (by rw [<-show k=g from e];exact hk))
theorem Fr.Pz{F:List Nat}{w w1:World}{g:Nat}(h:Fr (g::F) w w1)(j:Nat)(v:Value):Fr (g::F) w (w1.setCell ⟨g,j,none⟩ v):=h.setCell (List.mem_cons_self) j v
theorem jg{D:DS}{ep:Int}(h:ak D ep=0):D.ag=ep/\D.power=true:=by
 unfold ak at h
 split at h
 · exact absurd h (by decide)
 · rename_i c
   split at h
   · rename_i d;exact⟨Classical.not_not.1 c,d⟩
   · exact absurd h (by decide)
theorem yc(w:World)(g p:Nat)(s:aD)(nx ep:Int)(hf:FK w g p s nx ep)(q:Int):
   Calls Tryz.prog 63 #[.pointer (some ⟨g,0,none⟩), .int .i64 q] w fun e w'=>e= .returned (.bool (decide (2<=q/\q<nx)))/\w=w':=by
 have c6:w.cell? ⟨g,6,none⟩=some (.int .i64 nx):=hf.cell 6
 clear hf
 by_cases h2:2<=q
 · have HE:=aa (show decide (2<=q/\q<nx)=decide (q<nx) by simp [h2])
   go_enter Tryz.func63,Tryz.ntmps63
   go_wp2
   go_ret
   exact⟨by rw [HE.out];rfl,rfl⟩
 · go_enter Tryz.func63,Tryz.ntmps63
   go_wp2
   go_ret
   refine⟨?_,rfl⟩
   rw [show decide (2<=q)=false from decide_eq_false (by omega)]
   rfl
theorem wN(w:World)(base:Nat)(F:List Nat)(p:Nat)(D:DS)(h:DA w base F p D)(g:Nat)(s:aD)(nx ep:Int)(hf:FK w g p s nx ep):
   Calls Tryz.prog 32 #[.pointer (some ⟨g,0,none⟩)] w fun e w'=>e= .returned (.tuple #[])/\DA w' base F p D/\FK w' g p s s.ma ep/\Fr (g::F) w w':=by
 have c3:w.cell? ⟨g,3,none⟩=some (.int .i64 s.ma):=hf.cell 3
 have c6:w.cell? ⟨g,6,none⟩=some (.int .i64 nx):=hf.cell 6
 have f6:=hf.fz 6
 have HD:=aa (h.qI (hf.not h) 6 (.int .i64 s.ma))
 have HF:=aa (hf.set s.ma)
 clear h hf
 go_enter Tryz.func32,Tryz.ntmps32
 go_wp2
 go_end0
 exact⟨rfl,HD.out,HF.out,((Fr.refl F w).wide g).Pz 6 _⟩
theorem zl(w:World)(base:Nat)(F:List Nat)(p:Nat)(D:DS)(h:DA w base F p D)(cX:base<=w.heap.size)(g:Nat)(s:aD)(ep:Int)(q:Nat)(hf:FK w g p s q ep)(hlv:ak D ep=0)(hq:2<=q/\q<D.np)(kd:Int)(hk:kindOk kd=true)(l:List Int)(h8:aS l)(hl:l.length<=246)(sp:Option Addr)(cap:Nat)(hS:Src w sp cap l)(mA:D.ops.length<400000000000)(hwr:D.writes<4000000000000000000):
   Calls Tryz.prog 42 #[.pointer (some ⟨g,0,none⟩), .int .i64 kd, .slice sp l.length cap] w fun e w'=>(D.armed≠1->e= .returned (.tuple #[.int .i64 q, .int .i64 0])/\nz base F p g w (D.wr ⟨q,cy kd q l⟩) s (q+1:Nat) ep w')/\(D.armed=1->e= .returned (.tuple #[.int .i64 0, .int .i64 2])/\nz base F p g w (D.wr ⟨q,cy kd q l⟩) s q ep w'):=by
 have gI:=h.ok.np
 have cM:=(jg hlv).2
 obtain⟨k1,k3⟩:=(gQ kd).1 hk
 have hpl:eG (q:Int)=true:=(lN _).2 ⟨by omega,by omega⟩
 have HL:=aa (gD w base F p D h g s q ep hf)
 rw [hlv]at HL
 have HD:=aa h
 have HF:=aa hf
 have HS:=aa hS
 have kQ:(l.length:Int)<=246:=by omega
 have PC:((q:Int)==(D.np:Int))=false:=by simp;omega
 have iq:(q:Int)<4096:=by omega
 have Hq:=aa (fun(w1:World) (hS:Src w1 sp cap l)=>Nl w1 kd q l h8 hk hpl hl sp cap hS)
 have Vv:=aa hq
 have HP8:=aa (vJ kd q l ⟨by omega,by omega⟩ hl h8)
 have PD:=aa (sg kd q l hl)
 clear h hf hS gI hl h8 hk hpl hlv hq
 go_enter Tryz.func42,Tryz.ntmps42
 go_wp2_with fail
 refine HL.out.mono ?_
 rintro e w1 ⟨rfl,hb1⟩
 have HB1:=aa hb1
 have HD1:=aa (HD.out.below hb1)
 have HK1:=aa (HF.out.below hb1)
 have hgl1:g<w1.heap.size:=aC HK1.out
 have c0:=aa (show w1.cell? ⟨g,0,none⟩=some (.pointer (some ⟨p,0,none⟩))from HK1.out.cell 0)
 have c6:=aa (show w1.cell? ⟨g,6,none⟩=some (.int .i64 (q:Int))from HK1.out.cell 6)
 clear hb1 HL
 go_wp2
 refine wp_region_noPanic ?_
 refine wp_region_held_drew (S:=fun w'=>Below w1.heap.size w1 w') (by kernel_rfl) (Below.refl _ _).drew (fun hHeld=>?_)
 refine ai 0 (.pointer (some ⟨g,0,none⟩)) rfl hHeld ?_
 try go_frame
 refine ai 4 (.pointer (some ⟨g,0,none⟩)) rfl hHeld ?_
 try go_frame
 refine ai 1 (.pointer (some ⟨g,0,none⟩)) rfl hHeld ?_
 try go_frame
 refine ai 5 (.pointer (some ⟨g,0,none⟩)) rfl hHeld ?_
 try go_frame
 refine ai 2 (.pointer (some ⟨g,6,none⟩)) rfl hHeld ?_
 try go_frame
 refine ai 6 (.pointer (some ⟨g,0,none⟩)) rfl hHeld ?_
 try go_frame
 refine aV 3 (.int .i64 (q:Int)) rfl (yA (by intro w hS;have hc:=(hS.cell (p:=⟨g,6,none⟩) hgl1).trans c6.out;go_simp)) hHeld ?_
 try go_frame
 refine aV 7 (.pointer (some ⟨p,0,none⟩)) rfl (yA (by intro w hS;have hc:=(hS.cell (p:=⟨g,0,none⟩) hgl1).trans c0.out;go_simp)) hHeld ?_
 try go_frame
 refine bR 8 rfl (fun K hK=>?_)
 go_simp
 go_at_call 29
 refine(kA _ base F p D (HD1.out.below hHeld)).mono ?_
 rintro e w4 ⟨rfl,rfl⟩
 go_wp2_with fail
 refine hK.out _ _ (hHeld) ?_
 clear hK K hHeld
 intro hHeld
 try go_frame
 refine aV 9 (.bool false) rfl (yA (by intro w hS;(have he2:=PC;go_simp))) hHeld ?_
 try go_frame
 refine dY ?_
 have c62:w1.drew.cell? ⟨g,6,none⟩=some (.int .i64 (q:Int)):=(hHeld.cell (p:=⟨g,6,none⟩) hgl1).trans c6.out
 have hpk:=Hq.out w1.drew ((HS.out.below HB1.out (Nat.le_refl _)).below hHeld (Nat.le_refl _))
 have HH:=aa hHeld
 clear hHeld
 go_wp2_with fail
 refine hpk.mono ?_
 rintro e w2 ⟨gp,rfl,Vx,SB,hb2⟩
 have hb12:Below w1.heap.size w1 w2:=HH.out.trans (hb2.mono HH.out.size)
 have HB2:=aa (HB1.out.trans (hb12.mono HB1.out.size))
 have HD2:=aa (HD1.out.below hb12)
 have HK2:=aa (HK1.out.below hb12)
 have Bh:=aa (yV w2.drew base F p D HD2.out.drew (Nat.le_trans cX HB2.out.size) cM q Vv.out.2 (cy kd q l) PD.out HP8.out (some ⟨gp,0,none⟩) 256 (DY (tl:= []) (by rw [List.append_nil];exact SB) 256 (by rw [PD.out];omega) (by simp [maxLen])) mA hwr)
 clear hpk c62 Vx SB hb2 hb12 HH Hq HP8 PD c0 c6 HD1 HK1 HB1 HS
 go_wp2
 refine wp_region_noPanic ?_
 refine wp_region_held_drew (S:=fun w'=>FK w' g p s q ep) (by kernel_rfl) HK2.out.drew (fun hHeld=>?_)
 refine ai 0 (.pointer (some ⟨g,0,none⟩)) rfl hHeld ?_
 try go_frame
 refine ai 4 (.pointer (some ⟨g,0,none⟩)) rfl hHeld ?_
 try go_frame
 refine ai 8 (.slice (some ⟨gp,0,none⟩) 256 256) rfl hHeld ?_
 try go_frame
 refine ai 1 (.pointer (some ⟨g,0,none⟩)) rfl hHeld ?_
 try go_frame
 refine ai 5 (.pointer (some ⟨g,0,none⟩)) rfl hHeld ?_
 try go_frame
 refine ai 2 (.pointer (some ⟨g,0,none⟩)) rfl hHeld ?_
 try go_frame
 refine ai 6 (.pointer (some ⟨g,6,none⟩)) rfl hHeld ?_
 try go_frame
 refine aV 3 (.pointer (some ⟨p,0,none⟩)) rfl (yA (by intro w hS;have hc:=FK.c0 hS;go_simp)) hHeld ?_
 try go_frame
 refine aV 7 (.int .i64 (q:Int)) rfl (yA (by intro w hS;have hc:=FK.c6 hS;go_simp)) hHeld ?_
 try go_frame
 refine bR 9 rfl (fun K hK=>?_)
 go_simp
 go_at_call 73
 refine(Bh.out).mono ?_
 rintro e w3 ⟨rfl,hN⟩
 go_wp2_with fail
 refine hK.out _ _ (FK.other (show FK w2.drew g p s q ep from hHeld) HD2.out.drew hN.choose_spec.2.1) ?_
 clear hK K hHeld
 intro hHeld
 try go_frame
 refine ai 10 (.int .i64 D.eW) rfl hHeld ?_
 try go_frame
 refine dY ?_
 obtain⟨F3,q1,q2,q3⟩:=hN
 have HK3:=aa (show FK w3 g p s q ep from hHeld)
 have hfw:Fr F w w3:=(Fr.ba HB2.out).drew.trans q2 (Gr.refl _ _)
 have hgr:Gr w F F3:=fun k hk=>(q3 k hk).imp id (fun x=>Nat.le_trans HB2.out.size x)
 have SC:=aa hfw
 have ry:=aa hgr
 have HD3:=aa q1
 clear q1 q2 q3 hfw hgr hHeld Bh HD2 HK2
 by_cases ha:D.armed=1
 · rw [wL ha]
   go_wp2
   go_ret2
   exact⟨fun x=>absurd ha x,fun _=>⟨rfl,F3,HD3.out,HK3.out,SC.out.wide g,ry.out⟩⟩
 · rw [wK ha]
   have c63:w3.cell? ⟨g,6,none⟩=some (.int .i64 (q:Int)):=HK3.out.cell 6
   have f63:=HK3.out.fz 6
   go_wp2
   go_ret2
   refine⟨fun _=>⟨?_,F3,HD3.out.qI (HK3.out.not HD3.out) 6 _,?_,(SC.out.wide g).Pz 6 _,ry.out⟩,fun x=>absurd x ha⟩
   · go_num
   · have:=HK3.out.set (q+1:Nat);push_cast at this⊢;exact this
theorem jY{w:World}{a:Addr}{v:Value}(h:w.cell? a=some v):a.block<w.heap.size:=World.block_lt_of_cell? w a h
theorem zm{w:World}{b:Nat}{s:aD}{t:TypeId}(h:w.heap[b]? =some (.cells (ae s) t (0,0))):w.cell? ⟨b,3,none⟩=some (.int .i64 s.hd):=by simp [World.cell?,h,ae]
theorem Kv(w:World)(base:Nat)(F:List Nat)(p:Nat)(D:DS)(h:DA w base F p D)(g:Nat)(s:aD)(nx ep:Int)(hf:FK w g p s nx ep)(hlv:ak D ep=0)(q:Nat)(hq:2<=q/\(q:Int)<nx/\q<D.np)(hr:D.reads<4000000000000000000)(kd:Int)(l:List Int)(hu:bh q (D.aj q)=(kd,l,0))(z:Int)(hz:z=(q:Int)):
   Calls Tryz.prog 33 #[.pointer (some ⟨g,0,none⟩), .int .i64 z] w fun e w'=> ∃v,e= .returned (.tuple #[.int .i64 kd,v, .int .i64 0])/\Own w' w.heap.size v l/\DA w' base F p {D with reads:=D.reads+1}/\FK w' g p s nx ep/\Fr F w w':=by
 subst hz
 have HL:=aa (gD w base F p D h g s nx ep hf)
 rw [hlv]at HL
 have cM:=(jg hlv).2
 have fine:=js h.ok q hq.2.2
 have PG:=aa fine
 have HH:=aa (fun(w1:World) (hb:Below w.heap.size w w1)=>(show Calls Tryz.prog 63 #[.pointer (some ⟨g,0,none⟩), .int .i64 (q:Int)] w1 fun e w'=>e= .returned (.bool true)/\w1=w' from by
   have:=yc w1 g p s nx ep (hf.below hb) q
   rwa [show decide (2<=(q:Int)/\(q:Int)<nx)=true from decide_eq_true ⟨by omega,hq.2.1⟩]at this))
 have Hr:=aa (fun(w1:World) (hb:Below w.heap.size w w1)=>oF w1 base F p D (h.below hb) cM q hq.2.2 hr q rfl)
 have HC0:=aa (fun(w1:World) (hb:Below w.heap.size w w1)=>(show w1.cell? ⟨g,0,none⟩=some (.pointer (some ⟨p,0,none⟩))from(hf.below hb).cell 0))
 have HF:=aa hf
 have HD:=aa h
 have HU:=aa hu
 have Hs:=aa (fun(w1:World) (gp c:Nat) (hS:Src w1 (some ⟨gp,0,none⟩) c (D.aj q))=>(show Calls Tryz.prog 64 #[.int .i64 (q:Int), .slice (some ⟨gp,0,none⟩) 256 c] w1 fun e w'=> ∃v,e= .returned (.tuple #[.int .i64 kd,v, .int .i64 0])/\Own w' w1.heap.size v l/\Below w1.heap.size w1 w' from by
   have:=vN w1 q (D.aj q) fine.2 (some ⟨gp,0,none⟩) c hS
   rw [fine.1,hu]at this
   exact this))
 clear h hf hlv hq hr hu fine
 go_enter Tryz.func33,Tryz.ntmps33
 go_wp2_with fail
 refine HL.out.mono ?_
 rintro e w1 ⟨rfl,hb1⟩
 have HB1:=aa hb1
 have c0:=HC0.out w1 hb1
 clear hb1 HL
 go_wp2_with (first| (go_at_call 63;refine(HH.out w1 HB1.out).mono ?_;rintro e w0 ⟨rfl,rfl⟩))
 refine(Hr.out w1 HB1.out).mono ?_
 rintro e w2 ⟨gp,c,rfl,hO2,hS2,hg2,hD2,hF2⟩
 have HS2:=aa hS2
 have HD2:=aa hD2
 have HF2:=aa hF2
 clear hO2 hS2 hg2 hD2 hF2 Hr HH HC0 c0
 go_wp2_with fail
 refine(Hs.out w2 gp c HS2.out).mono ?_
 rintro e w3 ⟨v,rfl,hO3,hb3⟩
 have hw3:w.heap.size<=w3.heap.size:=Nat.le_trans HB1.out.size (Nat.le_trans HF2.out.size hb3.size)
 have HO3:=aa hO3
 have HB3:=aa hb3
 obtain⟨dz,cv,hv,_,_⟩:=hO3.form
 subst hv
 clear hO3 hb3 Hs HS2
 go_wp2
 go_ret3
 refine⟨_,rfl,HO3.out.base (Nat.le_trans HB1.out.size HF2.out.size),HD2.out.below HB3.out,?_,(((Fr.ba (F:=F) HB1.out).trans HF2.out (Gr.refl _ _)).tail (F':=F) HB3.out)⟩
 exact((HF.out.below HB1.out).other (HD.out.below HB1.out) HF2.out).below HB3.out
theorem FK.PH{w:World}{g p:Nat}{s:aD}{nx ep:Int}(h:FK w g p s nx ep)(s2:aD):FK (w.setCells g 1 (ae s2).toList) g p s2 nx ep:=by
 have h1:=heap_setCell_same w g 1 _ _ (.int .i64 s2.wd) h
 have h2:=heap_setCell_same _ g 2 _ _ (.int .i64 s2.ge) h1
 have h3:=heap_setCell_same _ g 3 _ _ (.int .i64 s2.ma) h2
 have h4:=heap_setCell_same _ g 4 _ _ (.int .i64 s2.hd) h3
 have h5:=heap_setCell_same _ g 5 _ _ (.int .i64 s2.pg) h4
 exact h5
theorem FK.range{w:World}{g p:Nat}{s:aD}{nx ep:Int}(h:FK w g p s nx ep):w.rangeAt g 1 (gL s):=fun j v hv=>by
 rw [h.cell]
 rcases j with _| _| _| _| _| j<;>first| exact hv| (simp [gL]at hv)
theorem FK.there{w:World}{g p:Nat}{s:aD}{nx ep:Int}(h:FK w g p s nx ep):w.there g 1 5:=fun j hj=>by
 refine⟨?_,h.fz _⟩
 rw [h.cell]
 rcases j with _| _| _| _| _| j
 all_goals first| rfl| omega
theorem Fr.setCells{F:List Nat}{a b:World}{g:Nat}(h:Fr F a b)(hg:g∈F)(s2:aD):Fr F a (b.setCells g 1 (ae s2).toList):=
 ((((h.setCell hg 1 (.int .i64 s2.wd)).setCell hg 2 (.int .i64 s2.ge)).setCell hg 3 (.int .i64 s2.ma)).setCell hg 4 (.int .i64 s2.hd)).setCell hg 5 (.int .i64 s2.pg)
theorem Bi(w:World)(g p:Nat)(s s2:aD)(nx ep:Int)(hf:FK w g p s nx ep)(G2 G6:Nat)(h2:w.heap[G2]? =some (.cells #[.pointer (some ⟨g,0,none⟩)] 56 (0,0)))(h6:w.heap[G6]? =some (.cells (ae s2) 40 (0,0))):
   Calls Tryz.prog 106 #[.pointer (some ⟨G6,0,none⟩), .pointer (some ⟨G2,0,none⟩)] w fun e w'=>e= .returned (.int .i64 0)/\FK w' g p s2 nx ep/\Fr [g] w w':=by
 have c2:=cell_of_one h2
 have HF:=aa hf
 have R6:=aa h6
 clear h2 h6 hf
 go_enter Tryz.func106,Tryz.ntmps106
 go_wp2_with (first
   | (refine aG (by rfl) 40 (.tmp 0) (by rfl) G6 (by rfl) 40 (ae s2) (0,0) _ (by exact R6.out) Tryz.underlying40 rfl (bQ s2) ?_)
   | (refine wpList_store_mid (by rfl) 40 (.tmp 6) (.tmp 4) (by rfl) g 1 (ae s2) (by rfl) (by rfl) (by exact HF.out.there) (bQ s2) (ew s2) ?_;generalize hw1:w.setCells g 1 (ae s2).toList=w1 at*))
 go_ret
 refine⟨rfl,?_,?_⟩
 · rw [<-hw1];exact HF.out.PH s2
 · rw [<-hw1];exact(Fr.refl [g] w).setCells (List.mem_singleton.2 rfl) s2
theorem NH: ∀(args:Array Value) (w:World),(callFunc 106 args).run Tryz.prog w= .ok (.enter 106 args) w:=enters_of Tryz.func106 (by kernel_rfl) rfl
theorem Fr.mono{F G:List Nat}{a b:World}(h:Fr F a b)(hs: ∀k∈F,k∈G):Fr G a b:=⟨h.os,h.tape,h.output,h.size,fun k hk hn=>h.block k hk (fun e=>hn (hs k e))⟩
theorem uC(w:World)(base:Nat)(F:List Nat)(p:Nat)(D0:DS)(h:DA w base F p D0)(cX:base<=w.heap.size)(g:Nat)(s s2:aD)(nx ep:Int)(hf:FK w g p s nx ep)(hb:mN D0 3)(a b:Nat)(ht:(St.lay s2 a b).there w p)(G2 G6:Nat)(h2:w.heap[G2]? =some (.cells #[.pointer (some ⟨g,0,none⟩)] 56 (0,0)))(h6:w.heap[G6]? =some (.cells (ae s2) 40 (0,0)))
   (k:Nat) (hk:w.heap[k]? =some (.cells #[.func (.func 59) #[.pointer (some ⟨p,0,none⟩)] #[], .func (.func 81) #[] #[.pointer (some ⟨b,0,none⟩), .pointer (some ⟨a,0,none⟩)], .func (.func 59) #[.pointer (some ⟨p,0,none⟩)] #[], .func (.func 106) #[] #[.pointer (some ⟨G6,0,none⟩), .pointer (some ⟨G2,0,none⟩)]] 114 (0,0))):
   Calls Tryz.prog 57 #[.slice (some ⟨k,0,none⟩) 4 4] w fun e w2=>e= .returned (.int .i64 (aX D0 [.sync, .lay s2 0 0, .sync]).2)/\nz base F p g w (aX D0 [.sync, .lay s2 0 0, .sync]).1 (if(aX D0 [.sync, .lay s2 0 0, .sync]).2=0 then s2 else s) nx ep w2:=by
 have hR:aX D0 [.sync, .lay s2 0 0, .sync]=aX D0 [.sync, .lay s2 a b, .sync]:=rfl
 rw [hR]
 obtain⟨all,hall⟩: ∃all,all= [St.sync, .lay s2 a b, .sync]:=⟨_,rfl⟩
 have hlen:all.length=3:=by rw [hall];rfl
 have Px: ∀x∈all,x.there w p:=by
   intro x hx
   rw [hall]at hx
   simp only [List.mem_cons,List.mem_nil_iff,or_false]at hx
   rcases hx with rfl| rfl| rfl
   · trivial
   · exact ht
   · trivial
 rw [<-hall]
 refine(wI w k 4 (by decide) (fun j=>if j<3 then(all.getD j .sync).fn else 106) (fun j=>if j<3 then(all.getD j .sync).first p else #[]) (fun j=>if j<3 then(all.getD j .sync).cap else #[.pointer (some ⟨G6,0,none⟩), .pointer (some ⟨G2,0,none⟩)])
   (fun j w'=>if j<=3 then TI w w' base F p D0 all j else(aX D0 all).2=0/\nz base F p g w (aX D0 all).1 s2 nx ep w') (fun x w'=>x=(aX D0 all).2/\nz base F p g w (aX D0 all).1 s nx ep w') ?_ ?_ ?_ ?_).mono ?_
 · intro j hj args w1
   by_cases c:j<3
   · simp only [if_pos c];exact St.SA _ args w1
   · simp only [if_neg c];exact NH args w1
 · simp only [Nat.zero_le,if_true]
   exact TI.start h all (by rw [hlen];exact hb)
 · intro j w1 hj hI
   simp only [if_pos (show j<=3 by omega)]at hI
   obtain⟨D,F',hD,hF,_⟩:=hI
   have hk1:=hF.keep hk (h.cS hk (by decide) (by decide) (by decide))
   rw [cell_of_row _ _ _ _ _ _ hk1,hall]
   rcases j with _| _| _| _| j
   · rfl
   · rfl
   · rfl
   · rfl
   · omega
 · intro j w1 hj hI
   simp only [if_pos (show j<=3 by omega)]at hI
   by_cases c:j<3
   · simp only [if_pos c,if_pos (show j+1<=3 by omega)]
     refine(TI.step h cX hI (by omega) Px).mono ?_
     rintro e w2 ⟨x,rfl,q1,q2⟩
     refine⟨x,rfl,q1,fun hx=>?_⟩
     obtain⟨e1,F2,r1,r2,r3⟩:=q2 hx
     exact⟨e1,F2,r1,hf.other h r2,r2.wide g,r3⟩
   · obtain rfl:j=3:=by omega
     simp only [if_neg c,if_neg (show¬(3+1<=3) by omega)]
     rw [<-hlen]at hI
     obtain⟨e0,F2,r1,r2,r3⟩:=hI.done
     have hf1:=hf.other h r2
     have h21:=r2.keep h2 (h.cS h2 (by decide) (by decide) (by decide))
     have h61:=r2.keep h6 (h.cS h6 (by decide) (by decide) (by decide))
     refine(Bi w1 g p s s2 nx ep hf1 G2 G6 h21 h61).mono ?_
     rintro e w2 ⟨rfl,hf2,hr2⟩
     refine⟨0,rfl,fun _=>⟨e0,F2,?_,hf2,?_,r3⟩,fun hx=>absurd rfl hx⟩
     · exact r1.of_heap fun i hi=>hr2.block i (r1.lt i hi).2 (fun e=>(hf1.not r1) (List.mem_singleton.1 e▸hi))
     · exact(r2.wide g).trans (hr2.mono (fun i hi=>by rw [List.mem_singleton.1 hi];exact List.mem_cons_self)) (Gr.refl _ _)
 · rintro e w2 ⟨x,rfl,q1,q2⟩
   by_cases hx:x=0
   · have:=q1 hx
     simp only [if_neg (show¬(4<=3) by omega)]at this
     rw [this.1,if_pos rfl,hx]
     exact⟨rfl,this.2⟩
   · obtain⟨e1,e2⟩:=q2 hx
     rw [<-e1,if_neg hx]
     exact⟨rfl,e2⟩
end Go.Proofs.YtpdakmhnnkaafaaGreat

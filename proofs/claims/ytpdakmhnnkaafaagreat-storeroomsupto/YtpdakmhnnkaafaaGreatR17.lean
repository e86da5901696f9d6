import Derived.Test.YtpdakmhnnkaafaaGreatR10
import Derived.Maps.RangeWalk
import Derived.Test.YtpdakmhnnkaafaaGreatR13
import Derived.Test.YtpdakmhnnkaafaaGreatR16
import Derived.Laws.CopyRow
import Derived.ArgAppend
namespace Go.Proofs.YtpdakmhnnkaafaaGreat
set_option maxRecDepth 100000
set_option maxHeartbeats 40000000
set_option linter.unusedVariables false
set_option linter.unusedSimpArgs false
open Go.RowKit
attribute [local go_sem ↓] Go.wp_at_zero Go.wp_at_succ
theorem IX(w:World)(base:Nat)(F:List Nat)(p:Nat)(D:DS)(h:DA w base F p D)(g:Nat)(s:aD)(nx ep:Int)(hf:FK w g p s nx ep)(hlv:ak D ep=0)(q:Nat)(hq:2<=q/\(q:Int)<nx/\q<D.np)(hr:D.reads<4000000000000000000)(hu:(bh q (D.aj q)).2.2≠0):
   Calls Tryz.prog 33 #[.pointer (some ⟨g,0,none⟩), .int .i64 q] w fun e w'=>e= .returned (.tuple #[.int .i64 0, .slice none 0 0, .int .i64 4])/\DA w' base F p {D with reads:=D.reads+1}/\FK w' g p s nx ep/\Fr F w w':=by
 have HL:=aa (gD w base F p D h g s nx ep hf)
 rw [hlv]at HL
 have cM:=(jg hlv).2
 have fine:=js h.ok q hq.2.2
 have HH:=aa (fun(w1:World) (hb:Below w.heap.size w w1)=>(show Calls Tryz.prog 63 #[.pointer (some ⟨g,0,none⟩), .int .i64 (q:Int)] w1 fun e w'=>e= .returned (.bool true)/\w1=w' from by
   have:=yc w1 g p s nx ep (hf.below hb) q
   rwa [show decide (2<=(q:Int)/\(q:Int)<nx)=true from decide_eq_true ⟨by omega,hq.2.1⟩]at this))
 have Hr:=aa (fun(w1:World) (hb:Below w.heap.size w w1)=>oF w1 base F p D (h.below hb) cM q hq.2.2 hr q rfl)
 have HC0:=aa (fun(w1:World) (hb:Below w.heap.size w w1)=>(show w1.cell? ⟨g,0,none⟩=some (.pointer (some ⟨p,0,none⟩))from(hf.below hb).cell 0))
 have HF:=aa hf
 have HD:=aa h
 obtain⟨kd,uH⟩: ∃kd,kd=(bh q (D.aj q)).1:=⟨_,rfl⟩
 obtain⟨l,hl⟩: ∃l,l=(bh q (D.aj q)).2.1:=⟨_,rfl⟩
 obtain⟨x,hx⟩: ∃x,x=(bh q (D.aj q)).2.2:=⟨_,rfl⟩
 have hz:(x !=0)=true:=by rw [hx];simpa using hu
 have Hs:=aa (fun(w1:World) (gp c:Nat) (hS:Src w1 (some ⟨gp,0,none⟩) c (D.aj q))=>(show Calls Tryz.prog 64 #[.int .i64 (q:Int), .slice (some ⟨gp,0,none⟩) 256 c] w1 fun e w'=> ∃v,e= .returned (.tuple #[.int .i64 kd,v, .int .i64 x])/\Own w' w1.heap.size v l/\Below w1.heap.size w1 w' from by
   have:=vN w1 q (D.aj q) fine.2 (some ⟨gp,0,none⟩) c hS
   rw [fine.1,<-uH,<-hl,<-hx]at this
   exact this))
 clear h hf hlv hq hr hu fine uH hl hx
 go_enter Tryz.func33,Tryz.ntmps33
 go_wp2_with fail
 refine HL.out.mono ?_
 rintro e w1 ⟨rfl,hb1⟩
 have HB1:=aa hb1
 have c0:=HC0.out w1 hb1
 clear hb1 HL
 go_wp2_with (first| (go_at_call 63;refine(HH.out w1 HB1.out).mono ?_;rintro e w0 ⟨rfl,rfl⟩))
 refine(Hr.out w1 HB1.out).mono ?_
 rintro e w2 ⟨gp,c,rfl,hO2,hS2,hg2,hD2,hF2⟩
 have HS2:=aa hS2
 have HD2:=aa hD2
 have HF2:=aa hF2
 clear hO2 hS2 hg2 hD2 hF2 Hr HH HC0 c0
 go_wp2_with fail
 refine(Hs.out w2 gp c HS2.out).mono ?_
 rintro e w3 ⟨v,rfl,hO3,hb3⟩
 have HB3:=aa hb3
 obtain⟨dz,cv,hv,_,_⟩:=hO3.form
 subst hv
 clear hO3 hb3 Hs HS2
 go_wp2
 go_ret3
 refine⟨rfl,HD2.out.below HB3.out,?_,(((Fr.ba (F:=F) HB1.out).trans HF2.out (Gr.refl _ _)).tail (F':=F) HB3.out)⟩
 exact((HF.out.below HB1.out).other (HD.out.below HB1.out) HF2.out).below HB3.out
end Go.Proofs.YtpdakmhnnkaafaaGreat
namespace Go.Proofs.YtpdakmhnnkaafaaGreat.Ca
set_option maxRecDepth 100000
set_option maxHeartbeats 40000000
set_option linter.unusedVariables false
set_option linter.unusedSimpArgs false
open Go.RowKit
attribute [local go_sem ↓] Go.wp_at_zero Go.wp_at_succ
def lf(h8 h9 h10:Int):List Value:= [.int .i64 h8, .int .i64 h9, .int .i64 h10, .int .i64 0, .int .i64 0]
theorem iY:(Tryz.prog.info? 42).map (·.size)=some 5:=by kernel_rfl
theorem mW{P:Program}{fn:Func}{p:Tmp}{ty:TypeId}(h:fn.results= #[.cell p ty])(tmps:Array Value)(w:World)(g:Nat)(t:TypeId)(cs:Array Value)(fr:Nat×Nat)(d:TypeDesc)
   (hp:tmps.getD p undef= .pointer (some ⟨g,0,none⟩)) (hg:w.heap[g]? =some (.cells cs t fr))
   (hu:P.underlying ty=some d) (hd:(match d with| .struct _| .array _ _=>true| _=>false)=true) (hi:(P.info? ty).map (·.size)=some cs.size):
   (results fn tmps).run P w= .ok (.agg cs) w:=by
 have si:tmps[p]?.getD undef= .pointer (some ⟨g,0,none⟩):=by simpa using hp
 simp [results,h,si,asAddr,run_loadVar_row w g t ty cs fr d hg hu hd hi]
theorem rG{w w1:World}{B:Nat}(h:Below B w w1){g:Nat}(hg:B<=g)(o:Nat)(v:Value):Below B w (w1.setCell ⟨g,o,none⟩ v):=
 ⟨h.os,h.tape,h.output,by rw [World.size_setCell];exact h.size,fun k hk=>(heap_setCell_other w1 ⟨g,o,none⟩ k v (by show k≠g;omega)).trans (h.block k hk)⟩
theorem hnew2(w:World)(A B:Obj):((w.alloc A).alloc B).heap[w.heap.size+1]? =some B:=by have:=aF (w.alloc A) B;simpa using this
theorem hold2(w:World)(A B:Obj):((w.alloc A).alloc B).heap[w.heap.size]? =some A:=hold (aF w A)
theorem mE(w:World)(A:Obj)(cs ds:Array Value)(t:TypeId)(fr:Nat×Nat):((w.alloc A).alloc (.cells cs t fr)).setRow (w.heap.size+1) ds=(w.alloc A).alloc (.cells ds t fr):=by
 have:=aP (w.alloc A) cs ds t fr
 simpa using this
theorem below2(w:World)(A B:Obj):Below w.heap.size w ((w.alloc A).alloc B):=((Below.refl _ w).alloc (Nat.le_refl _) _).alloc (by simp) _
def zer5:Array Value:= #[.int .i64 0, .int .i64 0, .int .i64 0, .int .i64 0, .int .i64 0]
theorem UJ(a b c:Int):(Tryz.prog.info? 42).map (·.size)=some (lf a b c).toArray.size:=by rw [iY];rfl
theorem UK(a b c:Int):(#[.int .i64 0, .int .i64 0, .int .i64 0, .int .i64 0, .int .i64 0]:Array Value).size=(lf a b c).toArray.size:=rfl
theorem UL(a b c:Int):(lf a b c).toArray.all (·.oneCell')=true:=by simp [lf,Value.oneCell']
theorem MF(a b c d e:Int):(Tryz.prog.info? 42).map (·.size)=some (#[.int .i64 a, .int .i64 b, .int .i64 c, .int .i64 d, .int .i64 e]:Array Value).size:=by rw [iY];rfl
theorem RL(a b c d e:Int):(#[.int .i64 0, .int .i64 0, .int .i64 0, .int .i64 0, .int .i64 0]:Array Value).size=(#[.int .i64 a, .int .i64 b, .int .i64 c, .int .i64 d, .int .i64 e]:Array Value).size:=rfl
theorem MG(a b c d e:Int):(#[.int .i64 a, .int .i64 b, .int .i64 c, .int .i64 d, .int .i64 e]:Array Value).all (·.oneCell')=true:=by simp [Value.oneCell']
theorem RM(w:World)(p:Nat)(h8 h9 h10 C D:Int)(h4: ∀o1 o2,((w.alloc o1).alloc o2).cell? ⟨p,4,none⟩=some (.int .i64 C))(h7: ∀o1 o2,((w.alloc o1).alloc o2).cell? ⟨p,7,none⟩=some (.int .i64 D)):
   ((w.alloc (.cells zer5 42)).alloc (.cells (lf h8 h9 h10).toArray 42)).cell? ⟨p,4,none⟩=some (.int .i64 C)/\((w.alloc (.cells zer5 42)).alloc (.cells (lf h8 h9 h10).toArray 42)).cell? ⟨p,7,none⟩=some (.int .i64 D)/\ ∃x y,((w.alloc (.cells zer5 42)).alloc (.cells (lf h8 h9 h10).toArray 42)).heap[w.heap.size+1]? =some (.cells #[.int .i64 h8, .int .i64 h9, .int .i64 h10, .int .i64 x, .int .i64 y] 42 (0,0)):=
 ⟨h4 _ _,h7 _ _,0,0,hnew2 w _ _⟩
theorem IY(w:World)(base:Nat)(F:List Nat)(p N:Nat)(a:AS Int Ct)(h:CA w base F p N a):
   Calls Tryz.prog 80 #[.pointer (some ⟨p,0,none⟩)] w fun x w'=>x= .returned (.agg #[.int .i64 a.bc, .int .i64 a.misses, .int .i64 a.gone, .int .i64 a.clean.length, .int .i64 a.held.length])/\Below w.heap.size w w':=by
 obtain⟨m,n,s,L,rfl,hC,hA,h1,h2,h3⟩:=h
 have hrg: ∀o1,(w.alloc o1).rangeAt p 8 (lf a.bc a.misses a.gone):=fun o1 j u hu=>by
   have:=(hC.alloc o1)
   rw [<-hA.bc,<-hA.misses,<-hA.gone]at hu
   unfold lf at hu
   match j,hu with
   | 0,hu=>cases hu;exact this.c8
   | 1,hu=>cases hu;exact this.c9
   | 2,hu=>cases hu;exact this.c10
   | 3,hu=>cases hu;rw [cell_of_row _ _ _ _ _ _ this.cell];rfl
   | 4,hu=>cases hu;rw [cell_of_row _ _ _ _ _ _ this.cell];rfl
   | j+5,hu=>simp at hu
 have hc4:s.cl.count=(a.clean.length:Int):=by have:=(hA.ref.row true).count;rw [hA.sS]at this;exact this
 have hc7:s.hd.count=(a.held.length:Int):=by have:=(hA.ref.row false).count;rw [hA.pG]at this;exact this
 have HC4:=aa (fun o1 o2=>(hc4▸((hC.alloc o1).alloc o2).c4:((w.alloc o1).alloc o2).cell? ⟨p,4,none⟩=some (.int .i64 (a.clean.length:Int))))
 have HC7:=aa (fun o1 o2=>(hc7▸((hC.alloc o1).alloc o2).c7:((w.alloc o1).alloc o2).cell? ⟨p,7,none⟩=some (.int .i64 (a.held.length:Int))))
 have Th:=aa hrg
 have jw:=aa (show w.heap.size+1≠p by have:=hlt hC.cell;omega)
 clear hC hA h1 h2 h3 hrg hc4 hc7
 generalize (a.clean.length:Int)=C at*
 generalize (a.held.length:Int)=D at*
 generalize (a.bc:Int)=h8 at*
 generalize (a.misses:Int)=h9 at*
 generalize (a.gone:Int)=h10 at*
 go_enter Tryz.func80,Tryz.ntmps80
 go_wp2_with (first
   | (refine dQ (by rfl) 42 (.tmp 6) (by rfl) p 8 (by rfl) (lf h8 h9 h10) _ (by exact Th.out _) Tryz.underlying42 rfl (by rw [iY];rfl) ?_)
   | (refine wpList_store_row (by rfl) 42 (.tmp 3) (.tmp 7) (by rfl) (w.heap.size+1) (lf h8 h9 h10).toArray (by rfl) (by rfl) 42 _ (by exact hnew2 _ _ _) (UJ h8 h9 h10) (UK h8 h9 h10) (UL h8 h9 h10) ?_;rw [mE];have HB2:=aa (below2 w (.cells zer5 42) (.cells (lf h8 h9 h10).toArray 42));have HS:=aa (RM w p h8 h9 h10 C D HC4.out HC7.out);have HG0:=aa (hold2 w (.cells zer5 42) (.cells (lf h8 h9 h10).toArray 42))))
 have HZ:=aa (show zer5= #[.int .i64 0, .int .i64 0, .int .i64 0, .int .i64 0, .int .i64 0]from rfl)
 rw [HZ.out]at HB2 HS HG0
 clear HZ HC4 HC7 Th
 generalize (w.alloc (.cells #[.int .i64 0, .int .i64 0, .int .i64 0, .int .i64 0, .int .i64 0] 42)).alloc (.cells (lf h8 h9 h10).toArray 42)=w2 at*
 generalize hG:w.heap.size+1=G at*
 generalize hH:w.heap.size=H at*
 refine wp_region_noPanic ?_
 refine wp_region_held_drew (S:=fun w'=>w'.cell? ⟨p,4,none⟩=some (.int .i64 C)/\w'.cell? ⟨p,7,none⟩=some (.int .i64 D)/\ ∃x y,w'.heap[G]? =some (.cells #[.int .i64 h8, .int .i64 h9, .int .i64 h10, .int .i64 x, .int .i64 y] 42 (0,0))) (by kernel_rfl) HS.out (fun hHeld=>?_)
 refine ai 0 (.pointer (some ⟨p,0,none⟩)) rfl hHeld ?_
 try go_frame
 refine ai 5 (.pointer (some ⟨p,0,none⟩)) rfl hHeld ?_
 try go_frame
 refine ai 1 (.pointer (some ⟨p,0,none⟩)) rfl hHeld ?_
 try go_frame
 refine ai 6 (.pointer (some ⟨p,0,none⟩)) rfl hHeld ?_
 try go_frame
 refine ai 2 (.pointer (some ⟨p,2,none⟩)) rfl hHeld ?_
 try go_frame
 refine ai 7 (.pointer (some ⟨p,5,none⟩)) rfl hHeld ?_
 try go_frame
 refine ai 3 (.pointer (some ⟨p,4,none⟩)) rfl hHeld ?_
 try go_frame
 refine ai 8 (.pointer (some ⟨p,7,none⟩)) rfl hHeld ?_
 try go_frame
 refine aV 4 (.int .i64 C) rfl (yA (by intro w hS;have hc:=hS.1;go_simp)) hHeld ?_
 try go_frame
 refine aV 9 (.int .i64 D) rfl (yA (by intro w hS;have hc:=hS.2.1;go_simp)) hHeld ?_
 try go_frame
 refine ai 10 (.pointer (some ⟨G,3,none⟩)) rfl hHeld ?_
 try go_frame
 refine bR 11 rfl (fun K hK=>?_)
 obtain⟨hq1,hq2,x,y,hq3⟩:=id hHeld
 have cz:=cell_of_row _ G 3 _ _ _ hq3
 have fz:=frozen_of_row _ G 3 _ _ hq3
 simp only [List.getElem?_toArray,List.getElem?_cons_succ,List.getElem?_cons_zero]at cz
 go_simp
 refine hK.out _ _ (⟨(World.cell?_setCell_far _ _ _ _ jw.out).trans hq1,(World.cell?_setCell_far _ _ _ _ jw.out).trans hq2,C,y,(heap_setCell_same _ G 3 _ _ (.int .i64 C) hq3).trans rfl⟩) ?_
 clear hK K hHeld
 intro hHeld
 have HQ3:=aa hq3
 clear hq1 hq2 hq3 cz fz
 try go_frame
 refine ai 12 (.pointer (some ⟨G,4,none⟩)) rfl hHeld ?_
 try go_frame
 refine bR 13 rfl (fun K hK=>?_)
 obtain⟨hq1,hq2,x,y,hq3⟩:=id hHeld
 have cz:=cell_of_row _ G 4 _ _ _ hq3
 have fz:=frozen_of_row _ G 4 _ _ hq3
 simp only [List.getElem?_toArray,List.getElem?_cons_succ,List.getElem?_cons_zero]at cz
 go_simp
 refine hK.out _ _ (⟨(World.cell?_setCell_far _ _ _ _ jw.out).trans hq1,(World.cell?_setCell_far _ _ _ _ jw.out).trans hq2,x,D,(heap_setCell_same _ G 4 _ _ (.int .i64 D) hq3).trans rfl⟩) ?_
 clear hK K hHeld
 intro hHeld
 have HQ4:=aa hq3
 clear hq1 hq2 hq3 cz fz
 try go_frame
 refine dY ?_
 have r5:(((w2.setCell ⟨G,3,none⟩ (.int .i64 C)).setCell ⟨G,4,none⟩ (.int .i64 D)).drew).heap[G]? =some (.cells #[.int .i64 h8, .int .i64 h9, .int .i64 h10, .int .i64 C, .int .i64 D] 42 (0,0)):=by
   have r3:=heap_setCell_same w2 G 3 _ _ (.int .i64 C) HQ3.out
   exact(heap_setCell_same _ G 4 _ _ (.int .i64 D) r3).trans rfl
 have r0:(((w2.setCell ⟨G,3,none⟩ (.int .i64 C)).setCell ⟨G,4,none⟩ (.int .i64 D)).drew).heap[H]? =some (.cells #[.int .i64 0, .int .i64 0, .int .i64 0, .int .i64 0, .int .i64 0] 42 (0,0)):=by
   exact(heap_setCell_other _ _ _ _ (by show H≠G;omega)).trans ((heap_setCell_other _ _ _ _ (by show H≠G;omega)).trans HG0.out)
 have hb:Below H w (((w2.setCell ⟨G,3,none⟩ (.int .i64 C)).setCell ⟨G,4,none⟩ (.int .i64 D)).drew):=(rG (rG HB2.out (by omega) _ _) (by omega) _ _).drew
 have HB5:=aa hb
 have HR5:=aa r5
 have HR0:=aa r0
 clear HQ3 HQ4 hb r5 r0 hHeld HS HG0
 generalize ((w2.setCell ⟨G,3,none⟩ (.int .i64 C)).setCell ⟨G,4,none⟩ (.int .i64 D)).drew=w5 at*
 go_wp2_with (first
   | (refine aG (by rfl) 42 (.tmp 3) (by rfl) G (by rfl) 42 _ _ _ (by exact HR5.out) Tryz.underlying42 rfl (by rw [iY];rfl) ?_)
   | (refine wpList_store_row (by rfl) 42 (.tmp 2) (.tmp 20) (by rfl) H #[.int .i64 h8, .int .i64 h9, .int .i64 h10, .int .i64 C, .int .i64 D] (by rfl) (by rfl) 42 _ (by exact HR0.out) (MF h8 h9 h10 C D) (RL h8 h9 h10 C D) (MG h8 h9 h10 C D) ?_))
 refine bodyPost_ret (mW Tryz.results80 _ _ H 42 #[.int .i64 h8, .int .i64 h9, .int .i64 h10, .int .i64 C, .int .i64 D] _ _ rfl (setRow_heap _ _ _ _ _ _ HR0.out) Tryz.underlying42 rfl (by rw [iY];rfl)) rfl ?_
 exact⟨rfl,by rw [hH];exact below_setRow HB5.out (Nat.le_refl _) _⟩
end Go.Proofs.YtpdakmhnnkaafaaGreat.Ca
namespace Go.Proofs.YtpdakmhnnkaafaaGreat
set_option maxRecDepth 100000
set_option maxHeartbeats 40000000
set_option linter.unusedVariables false
set_option linter.unusedSimpArgs false
open Go.RowKit
open Go.Proofs.YtpdakmhnnkaafaaGreat.Ca (Ct ct0 av bV AS)
attribute [local go_sem ↓] Go.wp_at_zero Go.wp_at_succ
theorem IZ(w:World)(base:Nat)(S:au)(h:SK w base S)(hlv:ak S.D S.ep=0)(hl:S.aB.length<=100000)(hm:0<=S.s.ma/\S.s.ma<=100000)(q:Int)(hq: ¬(2<=q/\q<S.s.ma+S.aB.length)):
   Calls Tryz.prog 15 #[.pointer (some ⟨S.st,0,none⟩), .int .i64 q] w fun e w'=>e= .returned (.tuple #[.int .i64 0, .slice none 0 0, .int .i64 41])/\Below w.heap.size w w':=by
 have HL:=aa (dn w base S h)
 rw [hlv]at HL
 have HA:=aa (fun w1 (b:Below w.heap.size w w1)=>jF w1 base S (h.below b) hl hm q)
 rw [decide_eq_false hq]at HA
 clear h hlv hl hm hq
 go_enter Tryz.func15,Tryz.ntmps15
 go_wp2_with fail
 refine HL.out.mono ?_
 rintro e w1 ⟨rfl,hb1⟩
 have HB:=aa hb1
 clear hb1
 go_wp2_with fail
 refine(HA.out w1 HB.out).mono ?_
 rintro e w2 ⟨rfl,hb2⟩
 go_wp2
 go_ret3
 exact⟨rfl,HB.out.trans (hb2.mono HB.out.size)⟩
theorem FW(w:World)(base:Nat)(S:au)(h:SK w base S)(c:Int)(hlv:ak S.D S.ep=c)(hc:c≠0)(q:Int):
   Calls Tryz.prog 15 #[.pointer (some ⟨S.st,0,none⟩), .int .i64 q] w fun e w'=>e= .returned (.tuple #[.int .i64 0, .slice none 0 0, .int .i64 c])/\Below w.heap.size w w':=by
 have HL:=aa (dn w base S h)
 rw [hlv]at HL
 have hc1:(c==0)=false:=by simpa using hc
 have hc2:(c !=0)=true:=by simpa using hc
 clear h hlv hc
 go_enter Tryz.func15,Tryz.ntmps15
 go_wp2_with fail
 refine HL.out.mono ?_
 rintro e w1 ⟨rfl,hb1⟩
 go_wp2
 go_ret3
 exact⟨rfl,hb1⟩
theorem FX(w:World)(base:Nat)(S:au)(h:SK w base S)(hlv:ak S.D S.ep=0)(hl:S.aB.length<=100000)(hm:0<=S.s.ma/\S.s.ma<=100000)(kd:Int)(n:Nat)(hn:n<=1000000)(sp:Option Addr)(cap:Nat)(c:Int)
   (hc:c=if kd<1\/3<kd then 50 else if 246<n then 51 else 5) (hb:(kd<1\/3<kd)\/246<n\/S.s.ma+S.aB.length=(S.D.np:Int)):
   Calls Tryz.prog 14 #[.pointer (some ⟨S.st,0,none⟩), .int .i64 kd, .slice sp n cap] w fun e w'=>e= .returned (.tuple #[.int .i64 0, .int .i64 c])/\Below w.heap.size w w':=by
 have HL:=aa (dn w base S h)
 rw [hlv]at HL
 have HN:=aa (fun w1 (q:Below w.heap.size w w1)=>kD w1 base S (h.below q) hl hm)
 have HP:=aa (fun w1 (q:Below w.heap.size w w1)=>mZ w1 base S (h.below q))
 clear h hlv hl hm
 have Ik:(n:Int)<=1000000:=by omega
 by_cases k1:kd<1
 · rw [if_pos (Or.inl k1)]at hc
   subst hc
   clear hb
   go_enter Tryz.func14,Tryz.ntmps14
   go_wp2_with fail
   refine HL.out.mono ?_
   rintro e w1 ⟨rfl,hb1⟩
   go_wp2
   go_ret2
   exact⟨rfl,hb1⟩
 · by_cases k2:3<kd
   · rw [if_pos (Or.inr k2)]at hc
     subst hc
     clear hb
     go_enter Tryz.func14,Tryz.ntmps14
     go_wp2_with fail
     refine HL.out.mono ?_
     rintro e w1 ⟨rfl,hb1⟩
     go_wp2
     go_ret2
     exact⟨rfl,hb1⟩
   · rw [if_neg (fun q=>q.elim k1 k2)]at hc
     by_cases k3:246<n
     · rw [if_pos k3]at hc
       subst hc
       have VK:(246:Int)<(n:Int):=by omega
       clear hb
       go_enter Tryz.func14,Tryz.ntmps14
       go_wp2_with fail
       refine HL.out.mono ?_
       rintro e w1 ⟨rfl,hb1⟩
       go_wp2
       go_ret2
       exact⟨rfl,hb1⟩
     · rw [if_neg k3]at hc
       subst hc
       have VK: ¬(246:Int)<(n:Int):=by omega
       have he:S.s.ma+(S.aB.length:Int)=(S.D.np:Int):=by
         rcases hb with(q| q)| q| q
         · exact absurd q k1
         · exact absurd q k2
         · exact absurd q k3
         · exact q
       rw [he]at HN
       clear hb he
       go_enter Tryz.func14,Tryz.ntmps14
       go_wp2_with fail
       refine HL.out.mono ?_
       rintro e w1 ⟨rfl,hb1⟩
       have HB:=aa hb1
       clear hb1
       go_wp2_with fail
       refine(HN.out w1 HB.out).mono ?_
       rintro e w2 ⟨rfl,hb2⟩
       have HB2:=aa (HB.out.trans (hb2.mono HB.out.size))
       clear hb2
       go_wp2_with fail
       refine(HP.out w2 HB2.out).mono ?_
       rintro e w3 ⟨rfl,hw⟩
       obtain rfl:=hw
       go_wp2
       go_ret2
       exact⟨rfl,HB2.out⟩
theorem FY(w:World)(base:Nat)(S:au)(h:SK w base S):
   Calls Tryz.prog 53 #[.pointer (some ⟨S.st,0,none⟩)] w fun e w'=>e= .returned (.agg #[.int .i64 S.a.bc, .int .i64 S.a.misses, .int .i64 S.a.gone, .int .i64 S.a.clean.length, .int .i64 S.a.held.length])/\Below w.heap.size w w':=by
 have hb0:Below w.heap.size w (w.alloc (.cells #[.int .i64 0, .int .i64 0, .int .i64 0, .int .i64 0, .int .i64 0] 42)):=(Below.refl _ w).alloc (Nat.le_refl _) _
 have HT:=aa (Ca.IY _ base S.FC S.pc S.N S.a (h.below hb0).ca)
 have c2:=(h.below hb0).c2
 have HB:=aa hb0
 clear h hb0
 go_enter Tryz.func53,Tryz.ntmps53
 go_wp2_with fail
 refine HT.out.mono ?_
 rintro _ w1 ⟨rfl,hb⟩
 have r0:w1.heap[w.heap.size]? =some (.cells #[.int .i64 0, .int .i64 0, .int .i64 0, .int .i64 0, .int .i64 0] 42 (0,0)):=(hb.block _ (by rw [World.size_alloc];omega)).trans (aF w _)
 have hb2:Below w.heap.size w w1:=HB.out.trans (hb.mono (by rw [World.size_alloc];omega))
 clear hb HT HB c2
 have hN:(Tryz.prog.info? 42).map (·.size)=some (#[.int .i64 (S.a.bc:Int), .int .i64 (S.a.misses:Int), .int .i64 (S.a.gone:Int), .int .i64 (S.a.clean.length:Int), .int .i64 (S.a.held.length:Int)]:Array Value).size:=Ca.MF (S.a.bc:Int) (S.a.misses:Int) (S.a.gone:Int) (S.a.clean.length:Int) (S.a.held.length:Int)
 have hZ:(#[.int .i64 0, .int .i64 0, .int .i64 0, .int .i64 0, .int .i64 0]:Array Value).size=(#[.int .i64 (S.a.bc:Int), .int .i64 (S.a.misses:Int), .int .i64 (S.a.gone:Int), .int .i64 (S.a.clean.length:Int), .int .i64 (S.a.held.length:Int)]:Array Value).size:=rfl
 have hO:(#[.int .i64 (S.a.bc:Int), .int .i64 (S.a.misses:Int), .int .i64 (S.a.gone:Int), .int .i64 (S.a.clean.length:Int), .int .i64 (S.a.held.length:Int)]:Array Value).all (·.oneCell')=true:=Ca.MG (S.a.bc:Int) (S.a.misses:Int) (S.a.gone:Int) (S.a.clean.length:Int) (S.a.held.length:Int)
 have bd:=below_setRow hb2 (Nat.le_refl _) #[.int .i64 (S.a.bc:Int), .int .i64 (S.a.misses:Int), .int .i64 (S.a.gone:Int), .int .i64 (S.a.clean.length:Int), .int .i64 (S.a.held.length:Int)]
 have r9:(w1.setRow w.heap.size #[.int .i64 (S.a.bc:Int), .int .i64 (S.a.misses:Int), .int .i64 (S.a.gone:Int), .int .i64 (S.a.clean.length:Int), .int .i64 (S.a.held.length:Int)]).heap[w.heap.size]? =_:=setRow_heap w1 _ _ _ _ _ r0
 go_wp2_with (first
   | refine wpList_store_row (by rfl) 42 (.tmp 2) (.tmp 7) (by rfl) w.heap.size #[.int .i64 (S.a.bc:Int), .int .i64 (S.a.misses:Int), .int .i64 (S.a.gone:Int), .int .i64 (S.a.clean.length:Int), .int .i64 (S.a.held.length:Int)] (by rfl) (by rfl) 42 _ (by exact r0) hN hZ hO ?_)
 exact bodyPost_ret (v:= .agg #[.int .i64 (S.a.bc:Int), .int .i64 (S.a.misses:Int), .int .i64 (S.a.gone:Int), .int .i64 (S.a.clean.length:Int), .int .i64 (S.a.held.length:Int)]) (mW Tryz.results53 _ _ w.heap.size 42 _ _ _ rfl r9 Tryz.underlying42 rfl hN) rfl ⟨rfl,bd⟩
theorem FZ(w:World)(base:Nat)(S:au)(h:SK w base S)(hlv:ak S.D S.ep=0)(hl:S.aB.length<=100000)(m:Nat)(hm:S.s.ma=m)(eY:S.nx=m)(hm2:2<=m/\m<=100000)(hN:S.N<2500000000000000000)(q:Nat)(hq:2<=q/\q<m/\q<S.D.np)(hv:S.a.val (q:Int)=none)(hr:S.D.reads<3000000000000000000)(hu:(bh q (S.D.aj q)).2.2≠0):
   Calls Tryz.prog 15 #[.pointer (some ⟨S.st,0,none⟩), .int .i64 q] w fun e w'=> ∃FC,e= .returned (.tuple #[.int .i64 0, .slice none 0 0, .int .i64 4])/\SK w' base {S with FC:=FC,D:={S.D with reads:=S.D.reads+1},N:=S.N+1,a:=S.a.get q,nx:=m}/\Below base w w'/\Fr S.fp w w'/\Gr w S.FC FC:=by
 have cX:=h.base
 have HL:=aa (dn w base S h)
 rw [hlv]at HL
 have HA:=aa (fun w1 (z:Below w.heap.size w w1)=>jF w1 base S (h.below z) hl ⟨by omega,by omega⟩ (q:Int))
 rw [decide_eq_true (show 2<=(q:Int)/\(q:Int)<S.s.ma+S.aB.length by omega)]at HA
 have HH:=aa (fun w1 (z:Below w.heap.size w w1)=>h.below z)
 have HV:=aa hv
 have uI:=aa (show Ca.jU (q:Int)from⟨by omega,by omega⟩)
 have fw:=aa cX
 obtain⟨pg,fY⟩: ∃pg:Int,pg=(q:Int):=⟨_,rfl⟩
 rw [<-fY]at HA HV uI
 rw [<-fY]
 have jw:=aa fY
 clear h hl cX fY hv
 go_enter Tryz.func15,Tryz.ntmps15
 go_wp2_with fail
 refine HL.out.mono ?_
 rintro e w1 ⟨rfl,hb1⟩
 have HB1:=aa hb1
 clear hb1 HL
 go_wp2_with fail
 refine(HA.out w1 HB1.out).mono ?_
 rintro e w2 ⟨rfl,hb2⟩
 have HB2:=aa (HB1.out.trans (hb2.mono HB1.out.size))
 clear hb2 HB1 w1 HA
 have c2:=(HH.out w2 HB2.out).c2
 have HG:Hid (Calls Tryz.prog 40 #[.pointer (some ⟨S.pc,0,none⟩), .int .i64 pg] w2 fun x w'=>x= .returned (.tuple #[.agg #[.int .i64 0, .slice none 0 0], .bool false])/\Ca.Nx base S.FC S.pc S.N w2 (S.a.get pg) w'):=aa (by
   have:=Ca.yn w2 base S.FC S.pc S.N S.a (HH.out w2 HB2.out).ca pg uI.out (by omega)
   rw [HV.out]at this
   exact this)
 go_wp2_with fail
 refine HG.out.mono ?_
 rintro e w3 ⟨rfl,F3,hC3,hF3,hG3⟩
 have HS3:=aa ((HH.out w2 HB2.out).cache hC3 hF3 hG3 (ml S.a pg) (uZ S.a pg))
 have HB3:=aa ((HB2.out.mono fw.out).trans (hF3.below (fun k hk=>((HH.out w2 HB2.out).dG (by simp [hk])).1) (Nat.le_trans fw.out HB2.out.size)))
 have FR3:=aa ((Fr.ba (F:=S.fp) HB2.out).trans hF3 (fun k q=>Or.inl ((au.mem S k).2 (by simp [q]))))
 have GR3:Hid (Gr w S.FC F3):=aa (fun k q=>(hG3 k q).imp id (fun z=>Nat.le_trans HB2.out.size z))
 clear hC3 hF3 hG3 HG c2 HH
 have hB4:=aq w3 (.cells #[.int .i64 0, .slice none 0 0] 93)
 have r4:=aF w3 (.cells #[.int .i64 0, .slice none 0 0] 93)
 have HS4:=aa (HS3.out.below hB4)
 have HB4:=aa (HB3.out.trans (hB4.mono (Nat.le_trans fw.out HB3.out.size)))
 have c1:=HS4.out.c1
 have MA:Hid (Calls Tryz.prog 33 #[.pointer (some ⟨S.g,0,none⟩), .int .i64 pg] (w3.alloc (.cells #[.int .i64 0, .slice none 0 0] 93)) fun e w'=>e= .returned (.tuple #[.int .i64 0, .slice none 0 0, .int .i64 4])/\DA w' base S.F S.p {S.D with reads:=S.D.reads+1}/\FK w' S.g S.p S.s S.nx S.ep/\Fr S.F (w3.alloc (.cells #[.int .i64 0, .slice none 0 0] 93)) w'):=aa (by
   have:=IX (w3.alloc (.cells #[.int .i64 0, .slice none 0 0] 93)) base S.F S.p S.D HS4.out.da S.g S.s S.nx S.ep HS4.out.fk hlv q ⟨hq.1,by rw [eY];omega,hq.2.2⟩ (by omega) hu
   rw [jw.out];exact this)
 have Te: ∀(args:Array Value) (w:World),(callFunc 33 args).run Tryz.prog w= .ok (.enter 33 args) w:=enters_of Tryz.func33 (by kernel_rfl) rfl
 have tr:=aa hm
 have MB:=aa eY
 clear hB4 r4 hlv hm eY hm2 hN hq hr hu
 go_wp2_with fail
 refine MA.out.mono ?_
 rintro e w5 ⟨rfl,hD5,hK5,hF5⟩
 have HS5:=aa (HS4.out.BK (F':=S.F) (D':={S.D with reads:=S.D.reads+1}) hD5 m tr.out (by show FK w5 S.g S.p S.s S.s.ma S.ep;rw [tr.out,<-MB.out];exact hK5) (hF5.wide S.g) (Gr.refl _ _))
 have HB5:=aa (HB4.out.trans (hF5.below (fun k hk=>(HS4.out.dG (by simp [show k∈S.F from hk])).1) (by have:=fw.out;have:=HB3.out.size;simp;omega)))
 have HF5:=aa (((FR3.out.trans (Fr.ba (F:=S.fp) (aq w3 (.cells #[.int .i64 0, .slice none 0 0] 93))) (Gr.refl _ _))).trans hF5 (fun k q=>Or.inl ((au.mem S k).2 (by simp [q]))))
 clear hD5 hK5 hF5
 go_wp2
 go_ret3
 exact⟨F3,rfl,HS5.out,HB5.out,HF5.out,GR3.out⟩
theorem DD(w:World)(base:Nat)(S:au)(h:SK w base S)(c:Int)(hlv:ak S.D S.ep=c)(hc:c≠0)(kd:Int)(sp:Option Addr)(l cap:Nat):
   Calls Tryz.prog 14 #[.pointer (some ⟨S.st,0,none⟩), .int .i64 kd, .slice sp l cap] w fun e w'=>e= .returned (.tuple #[.int .i64 0, .int .i64 c])/\Below w.heap.size w w':=by
 have HL:=aa (dn w base S h)
 rw [hlv]at HL
 have hc1:(c==0)=false:=by simpa using hc
 have hc2:(c !=0)=true:=by simpa using hc
 clear h hlv hc
 go_enter Tryz.func14,Tryz.ntmps14
 go_wp2_with fail
 refine HL.out.mono ?_
 rintro e w1 ⟨rfl,hb1⟩
 go_wp2
 go_ret2
 exact⟨rfl,hb1⟩
theorem BS(w:World)(base:Nat)(S:au)(h:SK w base S)(c:Int)(hlv:ak S.D S.ep=c)(hc:c≠0)(x:Int):
   Calls Tryz.prog 49 #[.pointer (some ⟨S.st,0,none⟩), .int .i64 x] w fun e w'=>e= .returned (.int .i64 c)/\Below w.heap.size w w':=by
 have HL:=aa (dn w base S h)
 rw [hlv]at HL
 have hc1:(c==0)=false:=by simpa using hc
 have hc2:(c !=0)=true:=by simpa using hc
 clear h hlv hc
 go_enter Tryz.func49,Tryz.ntmps49
 go_wp2_with fail
 refine HL.out.mono ?_
 rintro e w1 ⟨rfl,hb1⟩
 go_wp2
 go_ret
 exact⟨rfl,hb1⟩
theorem Ld(w:World)(g i c m ty:Nat)(a:Addr)(h:i<=c):(Builtin.append_ #[94,94] ty #[.slice (some ⟨g,0,none⟩) i c, .slice (some a) 0 m]).run Tryz.prog w= .ok (.slice (some ⟨g,0,none⟩) i c) w:=by
 obtain⟨ic,hi1,hi2⟩:=kZ
 have:=run_append_room_cells (P:=Tryz.prog) w 94 ty 93 ic Tryz.underlying94 hi1 g 0 i c a 0 m [] (by simp) (fun j u hu=>by simp at hu) (fun u hu=>by simp at hu) (by omega) (fun j hj=>by simp at hj) (fun j hj=>by simp at hj)
 simpa [World.setCells]using this
theorem NZ(w:World):(zeroValue 93).run Tryz.prog w= .ok (.agg #[.int .i64 0, .slice none 0 0]) w:=by kernel_rfl
theorem Ja(n:Nat):(Builtin.zeroCells #[Value.int .i64 0, .slice none 0 0] n).toList.length=n*2:=by simp [Builtin.zeroCells]
theorem Qs(n:Nat): ∀v∈(Builtin.zeroCells #[Value.int .i64 0, .slice none 0 0] n).toList,v.oneCell'=true:=by
 intro v hv
 simp only [Builtin.zeroCells,Array.toList_map,List.mem_map]at hv
 obtain⟨j,-,rfl⟩:=hv
 have h2:j%2<2:=Nat.mod_lt _ (by decide)
 show(#[Value.int .i64 0, .slice none 0 0][j%2]!).oneCell'=true
 rcases(show j%2=0\/j%2=1 by omega)with e| e<;>rw [e]<;>rfl
theorem zC(w:World)(g o k c ty:Nat)(cur:Array Value)(hg:w.heap[g]? =some (.cells cur 93 (0,0)))(hk:0<k)(hl:o+k*2<=cur.size):
   ∃cur':Array Value,(Builtin.clear_ #[94] ty #[.slice (some ⟨g,o,none⟩) k c]).run Tryz.prog w= .ok (.tuple #[]) (w.setRow g cur')/\cur'.size=cur.size/\cur'.toList.take o=cur.toList.take o:=by
 have hst:=run_storeCells_at (P:=Tryz.prog) g o 93 (Builtin.zeroCells #[Value.int .i64 0, .slice none 0 0] k).toList 0 cur w hg (by rw [Ja];omega) (Qs k)
 obtain⟨k',rfl⟩: ∃k',k=k'+1:=⟨k-1,by omega⟩
 refine⟨(cur.toList.take (o+0)++(Builtin.zeroCells #[Value.int .i64 0, .slice none 0 0] (k'+1)).toList++cur.toList.drop (o+0+(Builtin.zeroCells #[Value.int .i64 0, .slice none 0 0] (k'+1)).toList.length)).toArray,?_,?_,?_⟩
 · simp only [Builtin.clear_,run_underlying Tryz.underlying94,Sem.run_bind,Result.andThen_ok,NZ,Value.cells]
   simp [hst,Result.andThen]
 · rw [List.size_toArray,List.length_append,List.length_append,List.length_take,List.length_drop,Ja,Array.length_toList];omega
 · show(cur.toList.take (o+0)++(Builtin.zeroCells #[Value.int .i64 0, .slice none 0 0] (k'+1)).toList++_).take o=_
   rw [Nat.add_zero,List.append_assoc,List.take_append_of_le_length (by rw [List.length_take,Array.length_toList];omega),List.take_take,Nat.min_self]
def Ga(w:World)(base:Nat)(v:Value)(n i:Nat)(cs:List Value)(e:Ending)(w':World):Prop:= ∃v',e= .returned v'/\v'.ownBlock=v.ownBlock/\w'.ownsRow base 93 2 v' i (cs.take (i*2))/\Below base w w'/\ ∀k,k<w.heap.size->v.ownBlock≠some k->w'.heap[k]? =w.heap[k]?
theorem Gb(w:World)(base:Nat)(v:Value)(n i:Nat)(cs:List Value)(h:w.ownsRow base 93 2 v n cs)(hi:i<=n)(hn:n<=100000):
   Calls Tryz.prog 75 #[v, .int .i64 i, .int .i64 n] w (Ga w base v n i cs):=by
 have Ik:(n:Int)<=100000:=by omega
 have VL:(i:Int)<=(n:Int):=by omega
 obtain⟨sp,cap,hv⟩:=ei h
 by_cases e:i=n
 · subst e
   have hlen:=h.1
   have HF:Ga w base v i i cs (.returned v) w:=⟨v,rfl,rfl,by rw [List.take_of_length_le (by omega)];exact h,Below.refl _ _,fun _ _ _=>rfl⟩
   have HH:=aa HF
   have hcap:i<=cap:=by
     rcases h.2 with⟨r1,r2⟩| ⟨g,c,cur,r1,_,_,r4,_⟩
     · omega
     · rw [hv]at r1;injection r1 with z1 z2 z3;omega
   have WR:(i:Int)<=(cap:Int):=by omega
   subst hv
   clear h HF hlen
   go_enter Tryz.func75,Tryz.ntmps75
   go_wp2
   go_ret
   exact HH.out
 · have hin:i<n:=by omega
   obtain⟨g,c,cur,rfl,hg,hr,hc,hm,hs,ht⟩: ∃g c cur,v= .slice (some ⟨g,0,none⟩) n c/\base<=g/\w.heap[g]? =some (.cells cur 93 (0,0))/\n<=c/\c<=maxLen/\cur.size=c*2/\cur.toList.take (n*2)=cs:=by
     rcases h.2 with⟨_,r2⟩| r
     · omega
     · exact r
   clear hv
   have IU:(n:Int)<=(c:Int):=by omega
   have hcm:(c:Int)<=9223372036854775807:=by unfold maxLen at hm;omega
   have Xk:(i:Int)<(n:Int):=by omega
   have hne:((i:Int)==(n:Int))=false:=by simp;omega
   have hne2: ¬c=i:=by omega
   have hge:base<=g:=hg
   have HX:=aa (And.intro hg (And.intro hr (And.intro hc (And.intro hm (And.intro hs (And.intro ht hin))))))
   have XW: ∀(a:Addr) (m ty:Nat) (w:World),(Builtin.append_ #[94,94] ty #[.slice (some ⟨g,0,none⟩) i c, .slice (some a) 0 m]).run Tryz.prog w= .ok (.slice (some ⟨g,0,none⟩) i c) w:=fun a m ty w=>Ld w g i c m ty a (by omega)
   clear h hr hs ht hg hm
   go_enter Tryz.func75,Tryz.ntmps75
   by_cases xm:c=n
   · obtain rfl:n=c:=xm.symm
     go_wp2_with fail
     go_wp2
     go_quiet (fail)
     obtain⟨cur',e1,e2,e3⟩:=zC (w.drewN nq) g (i*2) (n-i) (n-i) 0 cur HX.out.2.1 (by omega) (by rw [HX.out.2.2.2.2.1];omega)
     have HE:=aa (And.intro e2 e3)
     clear e2 e3
     go_wp2
     go_ret
     obtain⟨hg,hr,hc,hm,hs,ht,hin⟩:=HX.out
     obtain⟨e2,e3⟩:=HE.out
     have hr2:((w.drewN nq).setRow g cur').heap[g]? =some (.cells cur' 93 (0,0)):=setRow_heap _ _ _ _ _ _ (show(w.drewN nq).heap[g]? =_ from hr)
     refine⟨_,rfl,rfl,⟨?_,Or.inr ⟨g,n,cur',rfl,hg,hr2,by omega,hm,by rw [e2,hs],?_⟩⟩,?_,fun k hk hne=>?_⟩
     · rw [<-ht,List.take_take,List.length_take,Array.length_toList,hs];omega
     · rw [e3,<-ht,List.take_take];congr 1;omega
     · exact below_setRow (below_drewN (Below.refl _ _) _) hge cur'
     · exact setRow_other (w.drewN nq) g k cur' (fun e=>hne (by rw [e];rfl))
   · go_wp2_with fail
     go_wp2
     go_quiet (fail)
     obtain⟨cur',e1,e2,e3⟩:=zC (w.drewN nq) g (i*2) (n-i) (c-i) 0 cur HX.out.2.1 (by omega) (by rw [HX.out.2.2.2.2.1];omega)
     have HE:=aa (And.intro e2 e3)
     clear e2 e3
     go_wp2
     go_ret
     obtain⟨hg,hr,hc,hm,hs,ht,hin⟩:=HX.out
     obtain⟨e2,e3⟩:=HE.out
     have hr2:((w.drewN nq).setRow g cur').heap[g]? =some (.cells cur' 93 (0,0)):=setRow_heap _ _ _ _ _ _ (show(w.drewN nq).heap[g]? =_ from hr)
     refine⟨_,rfl,rfl,⟨?_,Or.inr ⟨g,c,cur',rfl,hg,hr2,by omega,hm,by rw [e2,hs],?_⟩⟩,?_,fun k hk hne=>?_⟩
     · rw [<-ht,List.take_take,List.length_take,Array.length_toList,hs];omega
     · rw [e3,<-ht,List.take_take];congr 1;omega
     · exact below_setRow (below_drewN (Below.refl _ _) _) hge cur'
     · exact setRow_other (w.drewN nq) g k cur' (fun e=>hne (by rw [e];rfl))
theorem zD: ∀(l:List Ct) (i:Nat),(l.flatMap av).take (i*2)=(l.take i).flatMap av
 | [],i=>by simp
 | c::l,0=>by simp
 | c::l,i+1=>by
   rw [List.take_succ_cons,List.flatMap_cons,List.flatMap_cons,<-zD l i,show(i+1)*2=(av c).length+i*2 by rw [show(av c).length=2 from rfl];omega,List.take_append,List.take_of_length_le (by omega),Nat.add_sub_cancel_left]
theorem xn: ∀(l:List Ct) (n:Int) (i:Nat),(fW n l).take i=fW n (l.take i)
 | [],n,i=>by simp [fW]
 | c::l,n,0=>by simp [fW]
 | c::l,n,i+1=>by simp only [fW,List.take_succ_cons,xn l (n+1) i]
theorem fH{α:Type}(l:List α)(i j:Nat)(d:α)(h:j<i):(l.take i).getD j d=l.getD j d:=by
 simp [List.getD,List.getElem?_take,h]
theorem SK.Oa{w1 w3 w':World}{base:Nat}{S:au}(h:SK w1 base S)(i:Nat)(hi:i<=S.aB.length)(v':Value)(sI:v'.ownBlock=S.sv.ownBlock)(hO:w3.ownsRow base 93 2 v' i ((S.aB.flatMap av).take (i*2)))(hb:Below base w1 w3)(hk: ∀k,k<w1.heap.size->S.sv.ownBlock≠some k->w3.heap[k]? =w1.heap[k]?)(hX:Ca.Nx base S.FC S.pc S.N (w3.setCell ⟨S.st,3,none⟩ v') (S.a.release i) w'):
   ∃F2,SK w' base {S with FC:=F2,N:=S.N+1,a:=S.a.release i,sv:=v',aB:=S.aB.take i,vs:=S.vs.take i}/\Fr S.fp w1 w'/\Gr w1 S.fp (au.fp {S with FC:=F2,sv:=v'}):=by
 obtain⟨F2,hC,hF,hG⟩:=hX
 have hs3:(w3.setCell ⟨S.st,3,none⟩ v').heap.size=w3.heap.size:=World.size_setCell _ _ _
 have s13:=hb.size
 have keep: ∀k,k<w1.heap.size->S.sv.ownBlock≠some k->k≠S.st->k∉S.FC->w'.heap[k]? =w1.heap[k]? :=fun k a b c d=>((hF.block k (by rw [hs3];omega) d).trans (heap_setCell_other _ ⟨S.st,3,none⟩ k _ c)).trans (hk k a b)
 have lt: ∀k,(k=S.g\/k=S.st\/k∈S.F\/k∈S.FC\/S.sv.ownBlock=some k\/k∈S.lb)->k<w1.heap.size:=fun k q=>(h.dG q).2
 have r3:w3.heap[S.st]? =some (.cells (kY S.g S.pc S.sv).toArray 96 (0,0)):=(hk _ h.iW (fun e=>(h.dE e).2.1 rfl)).trans h.sk
 have r4:(w3.setCell ⟨S.st,3,none⟩ v').heap[S.st]? =some (.cells (kY S.g S.pc v').toArray 96 (0,0)):=by rw [heap_setCell_same _ _ _ _ _ _ r3];rfl
 have r5:w'.heap[S.st]? =some (.cells (kY S.g S.pc v').toArray 96 (0,0)):=(hF.block S.st (aC r4) h.ct.2.2.1).trans r4
 have hl: ∀k∈S.lb,w'.heap[k]? =w1.heap[k]? :=fun k q=>keep k (lt k (by simp [q])) (fun e=>(h.dE e).2.2.2.2 q) (fun e=>h.ct.2.2.2 (e▸q)) (fun z=>h.a3 k z q)
 have hF2: ∀k∈F2,k∈S.FC\/w3.heap.size<=k:=fun k q=>(hG k q).imp id (fun z=>by rw [hs3]at z;exact z)
 have hlen:(S.aB.take i).length=i:=by rw [List.length_take];omega
 refine⟨F2,⟨h.da.of_heap fun k q=>keep k (lt k (by simp [q])) (fun e=>(h.dE e).2.2.1 q) (fun e=>h.ct.2.1 (e▸q)) (h.a1 k q),?_,hC,r5,?_,fun k q=>⟨(h.lb k q).1,?_⟩,?_,fun j hj=>?_,fun x hx=>?_,?_,fun k q z=>?_,h.a2,fun k q z=>?_,h.bg,h.bs,h.bp⟩,?_,?_⟩
 · exact(keep S.g (lt _ (by simp)) (fun e=>(h.dE e).1 rfl) (fun e=>h.ct.1 e.symm) h.kE.2.1).trans h.fk
 · show w'.ownsRow base 93 2 v' (S.aB.take i).length ((S.aB.take i).flatMap av)
   rw [hlen,<-zD]
   refine cZ hO fun k e=>?_
   rw [sI]at e
   have hk1:=lt k (by simp [e])
   exact(hF.block k (by rw [hs3];omega) (h.dE e).2.2.2.1).trans (heap_setCell_other _ ⟨S.st,3,none⟩ k _ (h.dE e).2.1)
 · obtain⟨cs,hc⟩:=(h.lb k q).2
   exact⟨cs,(hl k q).trans hc⟩
 · show(S.aB.take i).length=(S.vs.take i).length
   rw [hlen,List.length_take,<-h.cl];omega
 · have hj2:j<i:=by have:j<(S.aB.take i).length:=hj;omega
   show jQ w' base S.lb ((S.aB.take i).getD j ct0) ((S.vs.take i).getD j (0,[]))
   rw [fH _ _ _ _ hj2,fH _ _ _ _ hj2]
   exact(h.cv j (by omega)).to (fun k q=>q) hl
 · obtain⟨v,c1,c2,c3,c4⟩:=h.ck x hx
   exact⟨v,c1.to (fun k q=>q) hl,c2,c3,c4⟩
 · show S.a.held.take i=fW S.s.ma (S.aB.take i)
   rw [h.hd,xn]
 · rcases hF2 k z with e| e
   · exact h.a1 k q e
   · have:=lt k (by simp [show k∈S.F from q]);omega
 · rcases hF2 k q with e| e
   · exact h.a3 k e z
   · have:=lt k (by simp [show k∈S.lb from z]);omega
 · refine⟨hF.os.trans hb.os,hF.tape.trans hb.tape,hF.output.trans hb.output,by have:=hF.size;rw [hs3]at this;omega,fun k a hn=>?_⟩
   have hm:=mt (au.mem S k).2 hn
   exact keep k a (fun e=>hm (by simp [e])) (fun e=>hm (by simp [e])) (fun e=>hm (by simp [e]))
 · intro k q
   rcases(au.mem _ k).1 q with e| e| e| e| e| e
   · exact Or.inl ((au.mem S k).2 (Or.inl e))
   · exact Or.inl ((au.mem S k).2 (Or.inr (Or.inl e)))
   · exact Or.inl ((au.mem S k).2 (Or.inr (Or.inr (Or.inl e))))
   · exact(hF2 k e).imp (fun z=>(au.mem S k).2 (by simp [z])) (fun z=>by omega)
   · exact Or.inl ((au.mem S k).2 (Or.inr (Or.inr (Or.inr (Or.inr (Or.inl e))))))
   · exact Or.inl ((au.mem S k).2 (Or.inr (Or.inr (Or.inr (Or.inr (Or.inr (sI▸e)))))))
theorem DF(w:World)(base:Nat)(S:au)(h:SK w base S)(hlv:ak S.D S.ep=0)(hl:S.aB.length<=100000)(hm:0<=S.s.ma/\S.s.ma<=100000)(hN:S.N<3000000000000000000)(i:Nat)(hi:i<=S.aB.length)(x:Int)(hx:x=S.s.ma+(i:Int)):
   Calls Tryz.prog 49 #[.pointer (some ⟨S.st,0,none⟩), .int .i64 x] w fun e w'=> ∃F2 v',e= .returned (.int .i64 0)/\SK w' base {S with FC:=F2,N:=S.N+1,a:=S.a.release i,sv:=v',aB:=S.aB.take i,vs:=S.vs.take i}/\Fr S.fp w w'/\Gr w S.fp (au.fp {S with FC:=F2,sv:=v'}):=by
 have cX:=h.base
 refine Calls.mono ?_ (fun e w' (z: ∃w3 v' w4,e= .returned (.int .i64 0)/\Below w.heap.size w w3/\v'.ownBlock=S.sv.ownBlock/\w4.ownsRow base 93 2 v' i ((S.aB.flatMap av).take (i*2))/\Below base w3 w4/\(∀k,k<w3.heap.size->S.sv.ownBlock≠some k->w4.heap[k]? =w3.heap[k]?)/\Ca.Nx base S.FC S.pc S.N (w4.setCell ⟨S.st,3,none⟩ v') (S.a.release i) w')=>by
   obtain⟨w3,v',w4,he,hB,h1,h2,h3,h4,h5⟩:=z
   obtain⟨F2,k1,k2,k3⟩:=(h.below hB).Oa i hi v' h1 h2 h3 h4 h5
   exact⟨F2,v',he,k1,(Fr.ba (F:=S.fp) hB).trans k2 (Gr.refl _ _),fun k q=>(k3 k q).imp id (fun z=>Nat.le_trans hB.size z)⟩)
 have HL:=aa (dn w base S h)
 rw [hlv]at HL
 have HM:=aa (fun w1 (q:Below w.heap.size w w1)=>sV w1 base S (h.below q))
 have HN:=aa (fun w1 (q:Below w.heap.size w w1)=>kD w1 base S (h.below q) hl hm)
 have HH:=aa (fun w1 (q:Below w.heap.size w w1)=>h.below q)
 have Ik:(S.aB.length:Int)<=100000:=by omega
 have VL:(i:Int)<=(S.aB.length:Int):=by omega
 obtain⟨kF,kG,xd⟩:=h.Iu
 have HE:=aa xd
 have Hi:=aa hi
 have Hl:=aa hl
 have mL:=aa hN
 obtain⟨m0,m1⟩:=hm
 clear h hlv hl hi xd hN
 generalize Ti:S.s.ma=ma at*
 generalize hn:S.aB.length=n at*
 generalize hst:S.st=st at*
 have XX:=aa Ti
 have Hn:=aa hn
 have Tj:=aa hst
 have Tk:x-ma=(i:Int):=by omega
 have hlo: ¬x<ma:=by omega
 have XY: ¬ma+(n:Int)<x:=by omega
 have hw:IntKind.i64.wrap (x-ma)=(i:Int):=by rw [Tk];exact ig _ (by omega) (by omega)
 clear Ti hn hst hx Tk
 go_enter Tryz.func49,Tryz.ntmps49
 go_wp2_with fail
 refine HL.out.mono ?_
 rintro e w1 ⟨rfl,hb1⟩
 have HB1:=aa hb1
 clear hb1 HL
 go_wp2_with fail
 refine(HM.out w1 HB1.out).mono ?_
 rintro e w2 ⟨rfl,hb2⟩
 have HB2:=aa (HB1.out.trans (hb2.mono HB1.out.size))
 clear hb2 HB1 w1
 go_wp2_with fail
 refine(HN.out w2 HB2.out).mono ?_
 rintro e w1 ⟨rfl,hb1⟩
 have HB1:=aa (HB2.out.trans (hb1.mono HB2.out.size))
 clear hb1 HB2 w2 HN
 go_wp2_with fail
 refine(HM.out w1 HB1.out).mono ?_
 rintro e w3 ⟨rfl,hb3⟩
 have HB3:=aa (HB1.out.trans (hb3.mono HB1.out.size))
 clear hb3 HB1 w1 HM
 go_wp2
 have H3:=aa (HH.out w3 HB3.out)
 have Ee:w3.drew.cell? ⟨st,3,none⟩=some (.slice kF n kG):=by rw [<-Tj.out,<-HE.out];exact H3.out.drew.c3
 have Tl:Hid (Calls Tryz.prog 75 #[.slice kF n kG, .int .i64 i, .int .i64 n] w3.drew (Ga w3.drew base (.slice kF n kG) n i (S.aB.flatMap av))):=aa (Gb w3.drew base _ n i _ (by rw [<-HE.out,<-Hn.out];exact H3.out.drew.so) (by have:=Hi.out;omega) Hl.out)
 have HS4:Hid (∀(w4:World) (v4:Value),v4.ownBlock=(Value.slice kF n kG).ownBlock->Below base w3.drew w4->(∀k,k<w3.drew.heap.size->(Value.slice kF n kG).ownBlock≠some k->w4.heap[k]? =w3.drew.heap[k]?)->w4.cell? ⟨st,3,none⟩=some (.slice kF n kG)/\w4.frozen? ⟨st,3,none⟩=false/\Ca.CA (w4.setCell ⟨st,3,none⟩ v4) base S.FC S.pc S.N S.a/\(w4.setCell ⟨st,3,none⟩ v4).cell? ⟨st,2,none⟩=some (.pointer (some ⟨S.pc,0,none⟩))):=aa (fun w4 v4 _ _ hk=>by
   rw [<-HE.out]at hk
   rw [<-HE.out,<-Tj.out]
   have h3:=H3.out.drew
   have r3:w4.heap[S.st]? =some (.cells (kY S.g S.pc S.sv).toArray 96 (0,0)):=(hk _ h3.iW (fun e=>(h3.dE e).2.1 rfl)).trans h3.sk
   have r4:(w4.setCell ⟨S.st,3,none⟩ v4).heap[S.st]? =some (.cells (kY S.g S.pc v4).toArray 96 (0,0)):=by rw [heap_setCell_same _ _ _ _ _ _ r3];rfl
   refine⟨by rw [cell_of_row _ _ _ _ _ _ r3];rfl,frozen_of_row _ _ _ _ _ r3,?_,by rw [cell_of_row _ _ _ _ _ _ r4];rfl⟩
   obtain⟨mm,nn,s,L,e,c,r⟩:=h3.ca
   exact⟨mm,nn,s,L,e,c.of_heap fun k hk2=>(heap_setCell_other _ ⟨S.st,3,none⟩ k _ (fun q=>h3.ct.2.2.1 (by rw [<-show k=S.st from q,e];exact hk2))).trans (hk k (h3.dG (by rw [e];simp [hk2])).2 (fun q=>(h3.dE q).2.2.2.1 (by rw [e];exact hk2))),r⟩)
 have MH:Hid (∀W5:World,Ca.CA W5 base S.FC S.pc S.N S.a->Calls Tryz.prog 76 #[.pointer (some ⟨S.pc,0,none⟩), .int .i64 i] W5 fun x w'=>x= .returned (.tuple #[])/\Ca.Nx base S.FC S.pc S.N W5 (S.a.release i) w'):=aa (fun W5 q=>Ca.Dr W5 base S.FC S.pc S.N S.a q (i:Int) mL.out)
 have PG:Hid (∀(w4 w6:World) (v4:Value),v4.ownBlock=(Value.slice kF n kG).ownBlock->w4.ownsRow base 93 2 v4 i ((S.aB.flatMap av).take (i*2))->Below base w3.drew w4->(∀k,k<w3.drew.heap.size->(Value.slice kF n kG).ownBlock≠some k->w4.heap[k]? =w3.drew.heap[k]?)->Ca.Nx base S.FC S.pc S.N (w4.setCell ⟨st,3,none⟩ v4) (S.a.release i) w6-> ∃w3 v' w4,Below w.heap.size w w3/\v'.ownBlock=S.sv.ownBlock/\w4.ownsRow base 93 2 v' i ((S.aB.flatMap av).take (i*2))/\Below base w3 w4/\(∀k,k<w3.heap.size->S.sv.ownBlock≠some k->w4.heap[k]? =w3.heap[k]?)/\Ca.Nx base S.FC S.pc S.N (w4.setCell ⟨st,3,none⟩ v') (S.a.release i) w6):=aa (fun w4 w6 v4 a b c d e=>⟨w3.drew,v4,w4,HB3.out.drew,by rw [HE.out];exact a,b,c,by rw [HE.out];exact d,e⟩)
 refine wp_region_noPanic ?_
 refine wp_region_held_drew (S:=fun _=>True) (by kernel_rfl) trivial (fun hHeld=>?_)
 refine ai 0 (.pointer (some ⟨st,0,none⟩)) rfl hHeld ?_
 try go_frame
 refine ai 1 (.pointer (some ⟨st,0,none⟩)) rfl hHeld ?_
 try go_frame
 refine ai 5 (.int .i64 i) rfl hHeld ?_
 try go_frame
 refine ai 6 (.pointer (some ⟨st,0,none⟩)) rfl hHeld ?_
 try go_frame
 refine ai 2 (.pointer (some ⟨st,0,none⟩)) rfl hHeld ?_
 try go_frame
 refine ai 7 (.pointer (some ⟨st,0,none⟩)) rfl hHeld ?_
 try go_frame
 refine ai 3 (.pointer (some ⟨st,3,none⟩)) rfl hHeld ?_
 try go_frame
 refine ai 8 (.pointer (some ⟨st,3,none⟩)) rfl hHeld ?_
 try go_frame
 refine wpAnyH_ready (rs:= [4,9]) (by kernel_rfl) (by simp) ?_
 refine(tQ rfl (fun K hK=>?_) (tQ rfl (fun K hK=>?_) AllReadyH.nil))
 · skip
   go_simp
   refine hK.out _ _ (trivial) ?_
   clear hK K hHeld
   intro hHeld
   try go_frame
   refine bR 9 rfl (fun K hK=>?_)
   go_simp
   refine hK.out _ _ (trivial) ?_
   clear hK K hHeld
   intro hHeld
   try go_frame
   refine ai 10 (.int .i64 n) rfl hHeld ?_
   try go_frame
   refine bR 11 rfl (fun K hK=>?_)
   go_simp
   go_at_call 75
   refine(Tl.out).mono ?_
   rintro e w4 ⟨v4,rfl,tj,hO4,hb4,hk4⟩
   obtain⟨sp4,cap4,rfl⟩:=ei hO4
   obtain⟨q1,q2,q3,q4⟩:=HS4.out w4 (.slice sp4 i cap4) tj hb4 hk4
   have HB4:=aa hb4
   have Qt:=aa tj
   have HO4:=aa hO4
   have HK4:=aa hk4
   clear hb4 tj hO4 hk4
   go_wp2_with fail
   refine hK.out _ _ (trivial) ?_
   clear hK K hHeld
   intro hHeld
   try go_frame
   refine ai 12 (.pointer (some ⟨st,0,none⟩)) rfl hHeld ?_
   try go_frame
   refine ai 13 (.pointer (some ⟨st,3,none⟩)) rfl hHeld ?_
   try go_frame
   refine bR 14 rfl (fun K hK=>?_)
   go_simp
   refine hK.out _ _ (trivial) ?_
   clear hK K hHeld
   intro hHeld
   try go_frame
   refine dY ?_
   clear hHeld
   have BJ:=aa (MH.out _ q3)
   have VM:=q4
   clear q3 q4 HS4 MH
   generalize hW5:w4.setCell ⟨st,3,none⟩ (.slice sp4 i cap4)=W5 at*
   have HW5:=aa hW5
   clear hW5
   go_wp2_with fail
   refine BJ.out.mono ?_
   rintro e w6 ⟨rfl,hX⟩
   have HX:=aa hX
   clear hX BJ
   go_wp2
   go_ret
   exact(fun z=>by obtain⟨a1,a2,a3,a4⟩:=z;exact⟨a1,a2,a3,rfl,a4⟩) (PG.out w4 w6 _ Qt.out HO4.out HB4.out HK4.out (by rw [HW5.out];exact HX.out))
 · skip
   go_simp
   refine hK.out _ _ (trivial) ?_
   clear hK K hHeld
   intro hHeld
   try go_frame
   refine ai 10 (.int .i64 n) rfl hHeld ?_
   try go_frame
   refine bR 4 rfl (fun K hK=>?_)
   go_simp
   refine hK.out _ _ (trivial) ?_
   clear hK K hHeld
   intro hHeld
   try go_frame
   refine bR 11 rfl (fun K hK=>?_)
   go_simp
   go_at_call 75
   refine(Tl.out).mono ?_
   rintro e w4 ⟨v4,rfl,tj,hO4,hb4,hk4⟩
   obtain⟨sp4,cap4,rfl⟩:=ei hO4
   obtain⟨q1,q2,q3,q4⟩:=HS4.out w4 (.slice sp4 i cap4) tj hb4 hk4
   have HB4:=aa hb4
   have Qt:=aa tj
   have HO4:=aa hO4
   have HK4:=aa hk4
   clear hb4 tj hO4 hk4
   go_wp2_with fail
   refine hK.out _ _ (trivial) ?_
   clear hK K hHeld
   intro hHeld
   try go_frame
   refine ai 12 (.pointer (some ⟨st,0,none⟩)) rfl hHeld ?_
   try go_frame
   refine ai 13 (.pointer (some ⟨st,3,none⟩)) rfl hHeld ?_
   try go_frame
   refine bR 14 rfl (fun K hK=>?_)
   go_simp
   refine hK.out _ _ (trivial) ?_
   clear hK K hHeld
   intro hHeld
   try go_frame
   refine dY ?_
   clear hHeld
   have BJ:=aa (MH.out _ q3)
   have VM:=q4
   clear q3 q4 HS4 MH
   generalize hW5:w4.setCell ⟨st,3,none⟩ (.slice sp4 i cap4)=W5 at*
   have HW5:=aa hW5
   clear hW5
   go_wp2_with fail
   refine BJ.out.mono ?_
   rintro e w6 ⟨rfl,hX⟩
   have HX:=aa hX
   clear hX BJ
   go_wp2
   go_ret
   exact(fun z=>by obtain⟨a1,a2,a3,a4⟩:=z;exact⟨a1,a2,a3,rfl,a4⟩) (PG.out w4 w6 _ Qt.out HO4.out HB4.out HK4.out (by rw [HW5.out];exact HX.out))
theorem DG(w:World)(base:Nat)(S:au)(h:SK w base S)(hlv:ak S.D S.ep=0)(hl:S.aB.length<=100000)(hm:0<=S.s.ma/\S.s.ma<=100000)(x:Int)(hx:x<S.s.ma\/S.s.ma+S.aB.length<x):
   Calls Tryz.prog 49 #[.pointer (some ⟨S.st,0,none⟩), .int .i64 x] w fun e w'=>e= .returned (.int .i64 1)/\Below w.heap.size w w':=by
 have HL:=aa (dn w base S h)
 rw [hlv]at HL
 have HM:=aa (fun w1 (q:Below w.heap.size w w1)=>sV w1 base S (h.below q))
 have HN:=aa (fun w1 (q:Below w.heap.size w w1)=>kD w1 base S (h.below q) hl hm)
 clear h hlv hl hm
 by_cases k1:x<S.s.ma
 · clear hx HN
   go_enter Tryz.func49,Tryz.ntmps49
   go_wp2_with fail
   refine HL.out.mono ?_
   rintro e w1 ⟨rfl,hb1⟩
   have HB1:=aa hb1
   clear hb1 HL
   go_wp2_with fail
   refine(HM.out w1 HB1.out).mono ?_
   rintro e w2 ⟨rfl,hb2⟩
   have HB2:=aa (HB1.out.trans (hb2.mono HB1.out.size))
   clear hb2 HB1 w1
   go_wp2
   go_ret
   exact⟨rfl,HB2.out⟩
 · have k2:S.s.ma+(S.aB.length:Int)<x:=hx.resolve_left k1
   clear hx
   go_enter Tryz.func49,Tryz.ntmps49
   go_wp2_with fail
   refine HL.out.mono ?_
   rintro e w1 ⟨rfl,hb1⟩
   have HB1:=aa hb1
   clear hb1 HL
   go_wp2_with fail
   refine(HM.out w1 HB1.out).mono ?_
   rintro e w2 ⟨rfl,hb2⟩
   have HB2:=aa (HB1.out.trans (hb2.mono HB1.out.size))
   clear hb2 HB1 w1
   go_wp2_with fail
   refine(HN.out w2 HB2.out).mono ?_
   rintro e w1 ⟨rfl,hb1⟩
   have HB1:=aa (HB2.out.trans (hb1.mono HB2.out.size))
   clear hb1 HB2 w2 HN
   go_wp2
   go_ret
   exact⟨rfl,HB1.out⟩
end Go.Proofs.YtpdakmhnnkaafaaGreat

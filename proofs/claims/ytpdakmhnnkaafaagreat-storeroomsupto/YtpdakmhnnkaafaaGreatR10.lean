import Derived.Maps.RangeWalk
import Derived.Test.YtpdakmhnnkaafaaGreatR09
import Derived.Test.YtpdakmhnnkaafaaGreatR01
import Derived.Test.YtpdakmhnnkaafaaGreatR04
import Derived.Maps.OwnSet
import Derived.Maps.OwnOps
namespace Go.Proofs.YtpdakmhnnkaafaaGreat
set_option maxRecDepth 100000
set_option maxHeartbeats 40000000
set_option linter.unusedVariables false
set_option linter.unusedSimpArgs false
open Go.RowKit
attribute [local go_sem ↓] Go.wp_at_zero Go.wp_at_succ
theorem Fz(w:World)(base:Nat)(F:List Nat)(p:Nat)(D:DS)(h:DA w base F p D)(cX:base<=w.heap.size)(g:Nat)(s:aD)(nx ep:Int)(hf:FK w g p s nx ep)(hlv:ak D ep=0)(hd:Int)(hh:hd=0\/(2<=hd/\hd<nx))(hg:0<=s.ge/\s.ge<1099511627776)(s2:aD)(hs2:s2=⟨s.wd,s.ge+1,nx,hd,s.pg⟩)(hv:aJ s2=true)(hb:mN D 3):
   Calls Tryz.prog 98 #[.pointer (some ⟨g,0,none⟩), .int .i64 hd] w fun e w2=>e= .returned (.int .i64 (aX D [.sync, .lay s2 0 0, .sync]).2)/\nz base F p g w (aX D [.sync, .lay s2 0 0, .sync]).1 (if(aX D [.sync, .lay s2 0 0, .sync]).2=0 then s2 else s) nx ep w2:=by
 obtain⟨w0,hw0⟩: ∃w0,w0=w.alloc (.cells #[.pointer (some ⟨g,0,none⟩)] 56):=⟨_,rfl⟩
 have b0:Below w.heap.size w w0:=by rw [hw0];exact aq _ _
 have r0:w0.heap[w.heap.size]? =some (.cells #[.pointer (some ⟨g,0,none⟩)] 56 (0,0)):=by rw [hw0];exact aF _ _
 have HL:=aa (gD w0 base F p D (h.below b0) g s nx ep (hf.below b0))
 rw [hlv]at HL
 have HB0:=aa b0
 have R0:=aa r0
 have W0:=aa hw0
 have HD:=aa h
 have HF:=aa hf
 have HH:Hid (∀(w1:World) (_:FK w1 g p s nx ep),(hd !=0)=true->Calls Tryz.prog 63 #[.pointer (some ⟨g,0,none⟩), .int .i64 hd] w1 fun e w'=>e= .returned (.bool true)/\w1=w'):=aa (fun w1 hf1 h0=>by
   have:=yc w1 g p s nx ep hf1 hd
   rcases hh with hh| hh
   · rw [hh]at h0;simp at h0
   · rwa [show decide (2<=hd/\hd<nx)=true from decide_eq_true hh]at this)
 have HS2:=aa hs2
 have i1:=hg.1
 have i2:=hg.2
 have hne:(s.ge==1099511627776)=false:=by simp;omega
 have Pw: ∀(fn:Fn) (first cap:Array Value) (w:World),(Instr.makeFunc fn first cap).run Tryz.prog w= .ok (.func fn first cap) w:=fun _ _ _ _=>rfl
 have K0:=aa h
 obtain⟨sF,PI⟩: ∃sF,sF=(if(aX D [.sync, .lay s2 0 0, .sync]).2=0 then s2 else s):=⟨_,rfl⟩
 rw [<-PI]
 have SE:=aa PI
 clear PI
 clear h hf hlv hg b0 r0 hs2 hw0
 by_cases hz:hd=0
 · subst hz
   clear hh HH
   go_enter Tryz.func98,Tryz.ntmps98
   have c0:=cell_of_one R0.out
   go_wp2_with (first
     | (go_at_call 31;rw [<-W0.out];refine HL.out.mono ?_;rintro e w1 ⟨rfl,hb1⟩;have HB1:=aa hb1;have c1:=(hb1.cell (p:=⟨w.heap.size,0,none⟩) (aC R0.out)).trans c0;have HF1:=aa ((HF.out.below HB0.out).below hb1);have c2:=(show w1.cell? ⟨g,2,none⟩=some (.int .i64 s.ge)from HF1.out.cell 2);clear hb1)
     | (go_at_call 63;refine(HH2.out w1 HF1.out).mono ?_;rintro e w2 ⟨rfl,rfl⟩)
     | (refine dQ (by rfl) 40 (.tmp 28) (by rfl) g 1 (by rfl) (gL s) _ (by exact HF1.out.range) Tryz.underlying40 rfl (by rw [cj];rfl) ?_)
     | (refine wpList_store_row (by rfl) 40 (.tmp 6) (.tmp 29) (by rfl) w1.heap.size (ae s) (by rfl) (by rfl) 40 _ (by exact aF _ _) (bQ s) (jP s) (ew s) ?_;rw [aP];have r6:=aF w1 (.cells (ae s) 40);have b2:=aq w1 (.cells (ae s) 40);have HF2:=aa (HF1.out.below b2);have e2:=(show(w1.alloc (.cells (ae s) 40)).cell? ⟨w.heap.size,0,none⟩=some (.pointer (some ⟨g,0,none⟩))from(b2.cell (p:=⟨w.heap.size,0,none⟩) (jY c1)).trans c1);have n1:w.heap.size≠w1.heap.size:=Nat.ne_of_lt (jY c1);have n2:g≠w1.heap.size:=Nat.ne_of_lt (aC HF1.out);generalize hw2:w1.alloc (.cells (ae s) 40)=w2 at*;generalize hG6:w1.heap.size=G6 at*;have c6:=oG r6;have f6:=frozen_of_row _ _ 1 _ _ r6;have c62:=sP r6;have f62:=frozen_of_row _ _ 2 _ _ r6;have c63:=zm r6;have f63:=frozen_of_row _ _ 3 _ _ r6;have g6:=HF2.out.c6;have g0:=HF2.out.c0;clear c1 c2 c0))
   generalize hw6:((w2.setCell ⟨G6,1,none⟩ (.int .i64 (s.ge+1))).setCell ⟨G6,2,none⟩ (.int .i64 nx)).setCell ⟨G6,3,none⟩ (.int .i64 0)=w6 at*
   have q1:=heap_setCell_same w2 G6 1 _ _ (.int .i64 (s.ge+1)) r6
   have q2:=heap_setCell_same _ G6 2 _ _ (.int .i64 nx) q1
   have q3:=heap_setCell_same _ G6 3 _ _ (.int .i64 0) q2
   rw [hw6]at q3
   have R6:=aa (show w6.heap[G6]? =some (.cells (ae s2) 40 (0,0)) by rw [q3,HS2.out];rfl)
   have hsz2:w1.heap.size<=w2.heap.size:=by rw [<-hw2];simp
   have B6:Below w1.heap.size w1 w6:=by
     rw [<-hw6,hG6]
     exact(((b2.setCell (p:=⟨G6,1,none⟩) (Nat.le_refl _) _).setCell (p:=⟨G6,2,none⟩) (Nat.le_refl _) _).setCell (p:=⟨G6,3,none⟩) (Nat.le_refl _) _)
   have BW:=HB0.out.trans ((HB1.out.trans (B6.mono HB1.out.size)).mono HB0.out.size)
   have D6:=HD.out.below BW
   have F6:=HF.out.below BW
   have wO:w6.heap[w.heap.size]? =some (.cells #[.pointer (some ⟨g,0,none⟩)] 56 (0,0)):=by
     have z:=(HB1.out.block _ (aC R0.out)).trans R0.out
     exact(B6.block _ (aC z)).trans z
   generalize hG2:w.heap.size=G2 at*
   have X6:=aa (show w6.drew.cell? ⟨G2,0,none⟩=some (.pointer (some ⟨g,0,none⟩))/\w6.drew.cell? ⟨g,0,none⟩=some (.pointer (some ⟨p,0,none⟩))/\w6.drew.heap[G6]? =some (.cells (ae s2) 40 (0,0))from⟨cell_of_one wO,F6.c0,R6.out⟩)
   have HT:=aa (fun(wA:World) (a0 b0:Nat) (hA:Below w6.heap.size w6 wA) (x1:wA.heap[a0]? =some (.cells #[.pointer (some ⟨p,0,none⟩)] 50 (0,0))) (x2:wA.heap[b0]? =some (.cells (ae s2) 40 (0,0)))=>
     (show Calls Tryz.prog 57 #[.slice (some ⟨wA.heap.size,0,none⟩) 4 4] (wA.alloc (.cells #[.func (.func 59) #[.pointer (some ⟨p,0,none⟩)] #[], .func (.func 81) #[] #[.pointer (some ⟨b0,0,none⟩), .pointer (some ⟨a0,0,none⟩)], .func (.func 59) #[.pointer (some ⟨p,0,none⟩)] #[], .func (.func 106) #[] #[.pointer (some ⟨G6,0,none⟩), .pointer (some ⟨G2,0,none⟩)]] 114)) fun e w'=>e= .returned (.int .i64 (aX D [.sync, .lay s2 0 0, .sync]).2)/\nz base F p g w (aX D [.sync, .lay s2 0 0, .sync]).1 sF nx ep w'/\(w'.cell? ⟨G2,0,none⟩=some (.pointer (some ⟨g,0,none⟩))/\w'.cell? ⟨g,0,none⟩=some (.pointer (some ⟨p,0,none⟩))/\w'.heap[G6]? =some (.cells (ae s2) 40 (0,0)))from by
       have hx:=aq wA (.cells #[.func (.func 59) #[.pointer (some ⟨p,0,none⟩)] #[], .func (.func 81) #[] #[.pointer (some ⟨b0,0,none⟩), .pointer (some ⟨a0,0,none⟩)], .func (.func 59) #[.pointer (some ⟨p,0,none⟩)] #[], .func (.func 106) #[] #[.pointer (some ⟨G6,0,none⟩), .pointer (some ⟨G2,0,none⟩)]] 114)
       have mO:Below w6.heap.size w6 (wA.alloc (.cells #[.func (.func 59) #[.pointer (some ⟨p,0,none⟩)] #[], .func (.func 81) #[] #[.pointer (some ⟨b0,0,none⟩), .pointer (some ⟨a0,0,none⟩)], .func (.func 59) #[.pointer (some ⟨p,0,none⟩)] #[], .func (.func 106) #[] #[.pointer (some ⟨G6,0,none⟩), .pointer (some ⟨G2,0,none⟩)]] 114)):=hA.trans (hx.mono hA.size)
       have sO:=D6.below mO
       have ru:=F6.below mO
       have y2:=(mO.block G2 (aC wO)).trans wO
       have y6:=(mO.block G6 (aC R6.out)).trans R6.out
       have Bl:Below w.heap.size w (wA.alloc (.cells #[.func (.func 59) #[.pointer (some ⟨p,0,none⟩)] #[], .func (.func 81) #[] #[.pointer (some ⟨b0,0,none⟩), .pointer (some ⟨a0,0,none⟩)], .func (.func 59) #[.pointer (some ⟨p,0,none⟩)] #[], .func (.func 106) #[] #[.pointer (some ⟨G6,0,none⟩), .pointer (some ⟨G2,0,none⟩)]] 114)):=by rw [hG2];exact BW.trans (mO.mono (by have:=BW.size;omega))
       rw [SE.out]
       refine(uC _ base F p D sO (by have:=Bl.size;omega) g s s2 nx ep ru hb a0 b0 ⟨hv,hold x1,hold x2⟩ G2 G6 y2 y6 wA.heap.size (aF _ _)).mono ?_
       rintro e w' ⟨rfl,F',z1,z2,z3,z4⟩
       refine⟨rfl,⟨F',z1,z2,((Fr.ba Bl).wide g).trans z3 (Gr.refl _ _),fun k hk=>(z4 k hk).imp id (fun x=>Nat.le_trans Bl.size x)⟩,?_,z2.c0,?_⟩
       · exact cell_of_one (z3.keep y2 (fun e=>by rcases List.mem_cons.1 e with e| e;exact cL y2 ru (by decide) e;exact sO.cS y2 (by decide) (by decide) (by decide) e))
       · exact z3.keep y6 (fun e=>by rcases List.mem_cons.1 e with e| e;exact cL y6 ru (by decide) e;exact sO.cS y6 (by decide) (by decide) (by decide) e)))
   clear q1 q2 q3 D6 F6 B6 BW wO R6 hb hv HS2 HL HB0 R0 W0 HD HF HF1 HF2 HB1 r6 b2 c6 f6 c62 f62 c63 f63 g6 g0 e2 hw6 hw2 hsz2
   refine wp_region_noPanic ?_
   refine wp_region_held_drew (S:=fun w'=>w'.cell? ⟨G2,0,none⟩=some (.pointer (some ⟨g,0,none⟩))/\w'.cell? ⟨g,0,none⟩=some (.pointer (some ⟨p,0,none⟩))/\w'.heap[G6]? =some (.cells (ae s2) 40 (0,0))) (by kernel_rfl) X6.out (fun hHeld=>?_)
   refine aV 0 (.pointer (some ⟨g,0,none⟩)) rfl (yA (by intro w hS;have hc:=hS.1;go_simp)) hHeld ?_
   try go_frame
   refine aV 5 (.pointer (some ⟨g,0,none⟩)) rfl (yA (by intro w hS;have hc:=hS.1;go_simp)) hHeld ?_
   try go_frame
   refine aV 9 (.agg (ae s2)) rfl (fR (by rfl) (.tmp 6) rfl G6 rfl s2 (fun w1 hS=>hS.2.2)) hHeld ?_
   try go_frame
   refine aV 11 (.pointer (some ⟨g,0,none⟩)) rfl (yA (by intro w hS;have hc:=hS.1;go_simp)) hHeld ?_
   try go_frame
   refine ai 16 (.func (.func 106) #[] #[.pointer (some ⟨G6,0,none⟩), .pointer (some ⟨G2,0,none⟩)]) rfl hHeld ?_
   try go_frame
   refine ai 1 (.pointer (some ⟨g,0,none⟩)) rfl hHeld ?_
   try go_frame
   refine ai 6 (.pointer (some ⟨g,0,none⟩)) rfl hHeld ?_
   try go_frame
   refine ai 12 (.pointer (some ⟨g,0,none⟩)) rfl hHeld ?_
   try go_frame
   refine ai 2 (.pointer (some ⟨g,0,none⟩)) rfl hHeld ?_
   try go_frame
   refine ai 7 (.pointer (some ⟨g,0,none⟩)) rfl hHeld ?_
   try go_frame
   refine ai 13 (.pointer (some ⟨g,0,none⟩)) rfl hHeld ?_
   try go_frame
   refine aV 3 (.pointer (some ⟨p,0,none⟩)) rfl (yA (by intro w hS;have hc:=hS.2.1;go_simp)) hHeld ?_
   try go_frame
   refine aV 8 (.pointer (some ⟨p,0,none⟩)) rfl (yA (by intro w hS;have hc:=hS.2.1;go_simp)) hHeld ?_
   try go_frame
   refine aV 14 (.pointer (some ⟨p,0,none⟩)) rfl (yA (by intro w hS;have hc:=hS.2.1;go_simp)) hHeld ?_
   try go_frame
   refine ai 4 (.func (.func 59) #[.pointer (some ⟨p,0,none⟩)] #[]) rfl hHeld ?_
   try go_frame
   refine ai 15 (.func (.func 59) #[.pointer (some ⟨p,0,none⟩)] #[]) rfl hHeld ?_
   try go_frame
   refine bR 10 rfl (fun K hK=>?_)
   go_simp
   go_at_call 58
   refine(mY _ p s2).mono ?_
   rintro e wA ⟨a0,b0,rfl,ha0,hb0,na0,nb0,iy⟩
   have HA0:=aa ha0
   have HB0:=aa hb0
   have oI:=aa (⟨iy.os,iy.tape,iy.output,iy.size,iy.block⟩:Below w6.heap.size w6 wA)
   go_wp2_with fail
   refine hK.out _ _ (⟨(iy.cell (p:=⟨G2,0,none⟩) (jY hHeld.1)).trans hHeld.1,(iy.cell (p:=⟨g,0,none⟩) (jY hHeld.2.1)).trans hHeld.2.1,(iy.block G6 (aC hHeld.2.2)).trans hHeld.2.2⟩) ?_
   clear hK K hHeld
   intro hHeld
   clear ha0 hb0 iy
   try go_frame
   refine bR 17 rfl (fun K hK=>?_)
   refine qH (by rfl) (.tmp 45) (.tmp 51) (.tmp 56) (.tmp 57) rfl _ _ _ _ _ _ _ _ _ _ _ _ rfl rfl rfl rfl ?_
   refine hK.out _ _ (⟨((aq _ _).cell (p:=⟨G2,0,none⟩) (jY hHeld.1)).trans hHeld.1,((aq _ _).cell (p:=⟨g,0,none⟩) (jY hHeld.2.1)).trans hHeld.2.1,hold hHeld.2.2⟩) ?_
   clear hK K hHeld
   intro hHeld
   try go_frame
   refine bR 18 rfl (fun K hK=>?_)
   go_simp
   go_at_call 57
   refine(HT.out wA a0 b0 oI.out HA0.out HB0.out).mono ?_
   rintro e wE ⟨rfl,hN,k7⟩
   go_wp2_with fail
   refine hK.out _ _ (k7) ?_
   clear hK K hHeld
   intro hHeld
   try go_frame
   refine ai 19 ((.int .i64 (aX D [.sync, .lay s2 0 0, .sync]).2)) rfl hHeld ?_
   try go_frame
   refine dY ?_
   go_wp2
   go_ret
   exact⟨rfl,hN⟩
 · have hz1:(hd !=0)=true:=by simpa using hz
   have HH2:=aa (fun w1 hf1=>HH.out w1 hf1 hz1)
   clear hh HH
   go_enter Tryz.func98,Tryz.ntmps98
   have c0:=cell_of_one R0.out
   go_wp2_with (first
     | (go_at_call 31;rw [<-W0.out];refine HL.out.mono ?_;rintro e w1 ⟨rfl,hb1⟩;have HB1:=aa hb1;have c1:=(hb1.cell (p:=⟨w.heap.size,0,none⟩) (aC R0.out)).trans c0;have HF1:=aa ((HF.out.below HB0.out).below hb1);have c2:=(show w1.cell? ⟨g,2,none⟩=some (.int .i64 s.ge)from HF1.out.cell 2);clear hb1)
     | (go_at_call 63;refine(HH2.out w1 HF1.out).mono ?_;rintro e w2 ⟨rfl,rfl⟩)
     | (refine dQ (by rfl) 40 (.tmp 28) (by rfl) g 1 (by rfl) (gL s) _ (by exact HF1.out.range) Tryz.underlying40 rfl (by rw [cj];rfl) ?_)
     | (refine wpList_store_row (by rfl) 40 (.tmp 6) (.tmp 29) (by rfl) w1.heap.size (ae s) (by rfl) (by rfl) 40 _ (by exact aF _ _) (bQ s) (jP s) (ew s) ?_;rw [aP];have r6:=aF w1 (.cells (ae s) 40);have b2:=aq w1 (.cells (ae s) 40);have HF2:=aa (HF1.out.below b2);have e2:=(show(w1.alloc (.cells (ae s) 40)).cell? ⟨w.heap.size,0,none⟩=some (.pointer (some ⟨g,0,none⟩))from(b2.cell (p:=⟨w.heap.size,0,none⟩) (jY c1)).trans c1);have n1:w.heap.size≠w1.heap.size:=Nat.ne_of_lt (jY c1);have n2:g≠w1.heap.size:=Nat.ne_of_lt (aC HF1.out);generalize hw2:w1.alloc (.cells (ae s) 40)=w2 at*;generalize hG6:w1.heap.size=G6 at*;have c6:=oG r6;have f6:=frozen_of_row _ _ 1 _ _ r6;have c62:=sP r6;have f62:=frozen_of_row _ _ 2 _ _ r6;have c63:=zm r6;have f63:=frozen_of_row _ _ 3 _ _ r6;have g6:=HF2.out.c6;have g0:=HF2.out.c0;clear c1 c2 c0))
   generalize hw6:((w2.setCell ⟨G6,1,none⟩ (.int .i64 (s.ge+1))).setCell ⟨G6,2,none⟩ (.int .i64 nx)).setCell ⟨G6,3,none⟩ (.int .i64 hd)=w6 at*
   have q1:=heap_setCell_same w2 G6 1 _ _ (.int .i64 (s.ge+1)) r6
   have q2:=heap_setCell_same _ G6 2 _ _ (.int .i64 nx) q1
   have q3:=heap_setCell_same _ G6 3 _ _ (.int .i64 hd) q2
   rw [hw6]at q3
   have R6:=aa (show w6.heap[G6]? =some (.cells (ae s2) 40 (0,0)) by rw [q3,HS2.out];rfl)
   have hsz2:w1.heap.size<=w2.heap.size:=by rw [<-hw2];simp
   have B6:Below w1.heap.size w1 w6:=by
     rw [<-hw6,hG6]
     exact(((b2.setCell (p:=⟨G6,1,none⟩) (Nat.le_refl _) _).setCell (p:=⟨G6,2,none⟩) (Nat.le_refl _) _).setCell (p:=⟨G6,3,none⟩) (Nat.le_refl _) _)
   have BW:=HB0.out.trans ((HB1.out.trans (B6.mono HB1.out.size)).mono HB0.out.size)
   have D6:=HD.out.below BW
   have F6:=HF.out.below BW
   have wO:w6.heap[w.heap.size]? =some (.cells #[.pointer (some ⟨g,0,none⟩)] 56 (0,0)):=by
     have z:=(HB1.out.block _ (aC R0.out)).trans R0.out
     exact(B6.block _ (aC z)).trans z
   generalize hG2:w.heap.size=G2 at*
   have X6:=aa (show w6.drew.cell? ⟨G2,0,none⟩=some (.pointer (some ⟨g,0,none⟩))/\w6.drew.cell? ⟨g,0,none⟩=some (.pointer (some ⟨p,0,none⟩))/\w6.drew.heap[G6]? =some (.cells (ae s2) 40 (0,0))from⟨cell_of_one wO,F6.c0,R6.out⟩)
   have HT:=aa (fun(wA:World) (a0 b0:Nat) (hA:Below w6.heap.size w6 wA) (x1:wA.heap[a0]? =some (.cells #[.pointer (some ⟨p,0,none⟩)] 50 (0,0))) (x2:wA.heap[b0]? =some (.cells (ae s2) 40 (0,0)))=>
     (show Calls Tryz.prog 57 #[.slice (some ⟨wA.heap.size,0,none⟩) 4 4] (wA.alloc (.cells #[.func (.func 59) #[.pointer (some ⟨p,0,none⟩)] #[], .func (.func 81) #[] #[.pointer (some ⟨b0,0,none⟩), .pointer (some ⟨a0,0,none⟩)], .func (.func 59) #[.pointer (some ⟨p,0,none⟩)] #[], .func (.func 106) #[] #[.pointer (some ⟨G6,0,none⟩), .pointer (some ⟨G2,0,none⟩)]] 114)) fun e w'=>e= .returned (.int .i64 (aX D [.sync, .lay s2 0 0, .sync]).2)/\nz base F p g w (aX D [.sync, .lay s2 0 0, .sync]).1 sF nx ep w'/\(w'.cell? ⟨G2,0,none⟩=some (.pointer (some ⟨g,0,none⟩))/\w'.cell? ⟨g,0,none⟩=some (.pointer (some ⟨p,0,none⟩))/\w'.heap[G6]? =some (.cells (ae s2) 40 (0,0)))from by
       have hx:=aq wA (.cells #[.func (.func 59) #[.pointer (some ⟨p,0,none⟩)] #[], .func (.func 81) #[] #[.pointer (some ⟨b0,0,none⟩), .pointer (some ⟨a0,0,none⟩)], .func (.func 59) #[.pointer (some ⟨p,0,none⟩)] #[], .func (.func 106) #[] #[.pointer (some ⟨G6,0,none⟩), .pointer (some ⟨G2,0,none⟩)]] 114)
       have mO:Below w6.heap.size w6 (wA.alloc (.cells #[.func (.func 59) #[.pointer (some ⟨p,0,none⟩)] #[], .func (.func 81) #[] #[.pointer (some ⟨b0,0,none⟩), .pointer (some ⟨a0,0,none⟩)], .func (.func 59) #[.pointer (some ⟨p,0,none⟩)] #[], .func (.func 106) #[] #[.pointer (some ⟨G6,0,none⟩), .pointer (some ⟨G2,0,none⟩)]] 114)):=hA.trans (hx.mono hA.size)
       have sO:=D6.below mO
       have ru:=F6.below mO
       have y2:=(mO.block G2 (aC wO)).trans wO
       have y6:=(mO.block G6 (aC R6.out)).trans R6.out
       have Bl:Below w.heap.size w (wA.alloc (.cells #[.func (.func 59) #[.pointer (some ⟨p,0,none⟩)] #[], .func (.func 81) #[] #[.pointer (some ⟨b0,0,none⟩), .pointer (some ⟨a0,0,none⟩)], .func (.func 59) #[.pointer (some ⟨p,0,none⟩)] #[], .func (.func 106) #[] #[.pointer (some ⟨G6,0,none⟩), .pointer (some ⟨G2,0,none⟩)]] 114)):=by rw [hG2];exact BW.trans (mO.mono (by have:=BW.size;omega))
       rw [SE.out]
       refine(uC _ base F p D sO (by have:=Bl.size;omega) g s s2 nx ep ru hb a0 b0 ⟨hv,hold x1,hold x2⟩ G2 G6 y2 y6 wA.heap.size (aF _ _)).mono ?_
       rintro e w' ⟨rfl,F',z1,z2,z3,z4⟩
       refine⟨rfl,⟨F',z1,z2,((Fr.ba Bl).wide g).trans z3 (Gr.refl _ _),fun k hk=>(z4 k hk).imp id (fun x=>Nat.le_trans Bl.size x)⟩,?_,z2.c0,?_⟩
       · exact cell_of_one (z3.keep y2 (fun e=>by rcases List.mem_cons.1 e with e| e;exact cL y2 ru (by decide) e;exact sO.cS y2 (by decide) (by decide) (by decide) e))
       · exact z3.keep y6 (fun e=>by rcases List.mem_cons.1 e with e| e;exact cL y6 ru (by decide) e;exact sO.cS y6 (by decide) (by decide) (by decide) e)))
   clear q1 q2 q3 D6 F6 B6 BW wO R6 hb hv HS2 HL HB0 R0 W0 HD HF HF1 HF2 HB1 r6 b2 c6 f6 c62 f62 c63 f63 g6 g0 e2 hw6 hw2 hsz2
   refine wp_region_noPanic ?_
   refine wp_region_held_drew (S:=fun w'=>w'.cell? ⟨G2,0,none⟩=some (.pointer (some ⟨g,0,none⟩))/\w'.cell? ⟨g,0,none⟩=some (.pointer (some ⟨p,0,none⟩))/\w'.heap[G6]? =some (.cells (ae s2) 40 (0,0))) (by kernel_rfl) X6.out (fun hHeld=>?_)
   refine aV 0 (.pointer (some ⟨g,0,none⟩)) rfl (yA (by intro w hS;have hc:=hS.1;go_simp)) hHeld ?_
   try go_frame
   refine aV 5 (.pointer (some ⟨g,0,none⟩)) rfl (yA (by intro w hS;have hc:=hS.1;go_simp)) hHeld ?_
   try go_frame
   refine aV 9 (.agg (ae s2)) rfl (fR (by rfl) (.tmp 6) rfl G6 rfl s2 (fun w1 hS=>hS.2.2)) hHeld ?_
   try go_frame
   refine aV 11 (.pointer (some ⟨g,0,none⟩)) rfl (yA (by intro w hS;have hc:=hS.1;go_simp)) hHeld ?_
   try go_frame
   refine ai 16 (.func (.func 106) #[] #[.pointer (some ⟨G6,0,none⟩), .pointer (some ⟨G2,0,none⟩)]) rfl hHeld ?_
   try go_frame
   refine ai 1 (.pointer (some ⟨g,0,none⟩)) rfl hHeld ?_
   try go_frame
   refine ai 6 (.pointer (some ⟨g,0,none⟩)) rfl hHeld ?_
   try go_frame
   refine ai 12 (.pointer (some ⟨g,0,none⟩)) rfl hHeld ?_
   try go_frame
   refine ai 2 (.pointer (some ⟨g,0,none⟩)) rfl hHeld ?_
   try go_frame
   refine ai 7 (.pointer (some ⟨g,0,none⟩)) rfl hHeld ?_
   try go_frame
   refine ai 13 (.pointer (some ⟨g,0,none⟩)) rfl hHeld ?_
   try go_frame
   refine aV 3 (.pointer (some ⟨p,0,none⟩)) rfl (yA (by intro w hS;have hc:=hS.2.1;go_simp)) hHeld ?_
   try go_frame
   refine aV 8 (.pointer (some ⟨p,0,none⟩)) rfl (yA (by intro w hS;have hc:=hS.2.1;go_simp)) hHeld ?_
   try go_frame
   refine aV 14 (.pointer (some ⟨p,0,none⟩)) rfl (yA (by intro w hS;have hc:=hS.2.1;go_simp)) hHeld ?_
   try go_frame
   refine ai 4 (.func (.func 59) #[.pointer (some ⟨p,0,none⟩)] #[]) rfl hHeld ?_
   try go_frame
   refine ai 15 (.func (.func 59) #[.pointer (some ⟨p,0,none⟩)] #[]) rfl hHeld ?_
   try go_frame
   refine bR 10 rfl (fun K hK=>?_)
   go_simp
   go_at_call 58
   refine(mY _ p s2).mono ?_
   rintro e wA ⟨a0,b0,rfl,ha0,hb0,na0,nb0,iy⟩
   have HA0:=aa ha0
   have HB0:=aa hb0
   have oI:=aa (⟨iy.os,iy.tape,iy.output,iy.size,iy.block⟩:Below w6.heap.size w6 wA)
   go_wp2_with fail
   refine hK.out _ _ (⟨(iy.cell (p:=⟨G2,0,none⟩) (jY hHeld.1)).trans hHeld.1,(iy.cell (p:=⟨g,0,none⟩) (jY hHeld.2.1)).trans hHeld.2.1,(iy.block G6 (aC hHeld.2.2)).trans hHeld.2.2⟩) ?_
   clear hK K hHeld
   intro hHeld
   clear ha0 hb0 iy
   try go_frame
   refine bR 17 rfl (fun K hK=>?_)
   refine qH (by rfl) (.tmp 45) (.tmp 51) (.tmp 56) (.tmp 57) rfl _ _ _ _ _ _ _ _ _ _ _ _ rfl rfl rfl rfl ?_
   refine hK.out _ _ (⟨((aq _ _).cell (p:=⟨G2,0,none⟩) (jY hHeld.1)).trans hHeld.1,((aq _ _).cell (p:=⟨g,0,none⟩) (jY hHeld.2.1)).trans hHeld.2.1,hold hHeld.2.2⟩) ?_
   clear hK K hHeld
   intro hHeld
   try go_frame
   refine bR 18 rfl (fun K hK=>?_)
   go_simp
   go_at_call 57
   refine(HT.out wA a0 b0 oI.out HA0.out HB0.out).mono ?_
   rintro e wE ⟨rfl,hN,k7⟩
   go_wp2_with fail
   refine hK.out _ _ (k7) ?_
   clear hK K hHeld
   intro hHeld
   try go_frame
   refine ai 19 ((.int .i64 (aX D [.sync, .lay s2 0 0, .sync]).2)) rfl hHeld ?_
   try go_frame
   refine dY ?_
   go_wp2
   go_ret
   exact⟨rfl,hN⟩
end Go.Proofs.YtpdakmhnnkaafaaGreat
namespace Go.Proofs.YtpdakmhnnkaafaaGreat.Ca
set_option maxRecDepth 100000
set_option maxHeartbeats 40000000
set_option linter.unusedVariables false
set_option linter.unusedSimpArgs false
structure rB (κ ν:Type) where
 key:κ
 val:ν
 held:Bool
 eM:Option Nat
 eV:Option Nat
structure Rw where
 first:Option Nat
 last:Option Nat
 count:Int
structure CS (κ ν:Type) where
 room:Int
 cl:Rw
 hd:Rw
 bc:Int
 misses:Int
 gone:Int
 E:Nat->rB κ ν
 bs:List Nat
 look:κ->Option Nat
section
variable {κ ν:Type}
def CS.row(s:CS κ ν):Bool->Rw
 | true=>s.cl
 | false=>s.hd
def CS.setRow(s:CS κ ν)(r:Bool)(x:Rw):CS κ ν:=match r with
 | true=>{s with cl:=x}
 | false=>{s with hd:=x}
def CS.pE(s:CS κ ν)(b:Nat)(x:rB κ ν):CS κ ν:={s with E:=fun i=>if i=b then x else s.E i}
def CS.pX(s:CS κ ν)(b:Nat)(a:Option Nat):CS κ ν:=s.pE b {s.E b with eV:=a}
def CS.pY(s:CS κ ν)(b:Nat)(a:Option Nat):CS κ ν:=s.pE b {s.E b with eM:=a}
def CS.bU(s:CS κ ν)(b:Nat)(h:Bool):CS κ ν:=s.pE b {s.E b with held:=h}
def CS.il(s:CS κ ν)(r:Bool)(a:Option Nat):CS κ ν:=s.setRow r {s.row r with first:=a}
def CS.lK(s:CS κ ν)(r:Bool)(a:Option Nat):CS κ ν:=s.setRow r {s.row r with last:=a}
def CS.eo(s:CS κ ν)(r:Bool)(n:Int):CS κ ν:=s.setRow r {s.row r with count:=n}
def CS.oJ(s:CS κ ν)(r:Bool)(b a:Option Nat):CS κ ν:=match b with
 | none=>s.il r a
 | some x=>s.pX x a
def CS.oK(s:CS κ ν)(r:Bool)(b a:Option Nat):CS κ ν:=match a with
 | none=>s.lK r b
 | some y=>s.pY y b
def CS.join(s:CS κ ν)(r:Bool)(b a:Option Nat):CS κ ν:=(s.oJ r b a).oK r b a
def CS.aZ(s:CS κ ν)(r:Bool)(e:Nat):CS κ ν:=
 let t:=s.join r (s.E e).eM (s.E e).eV
 t.eo r ((t.row r).count-1)
def CS.link(s:CS κ ν)(r:Bool)(b:Option Nat)(e:Nat)(a:Option Nat):CS κ ν:=
 let t:=(s.join r b (some e)).join r (some e) a
 t.eo r ((t.row r).count+1)
def CS.dA(s:CS κ ν)(r:Bool)(e:Nat):CS κ ν:=s.link r none e (s.row r).first
def CS.iu(s:CS κ ν)(r:Bool)(e:Nat):CS κ ν:=s.link r (s.row r).last e none
structure Sm (s t:CS κ ν):Prop where
 room:t.room=s.room
 bc:t.bc=s.bc
 misses:t.misses=s.misses
 gone:t.gone=s.gone
 bs:t.bs=s.bs
 look:t.look=s.look
 key: ∀i,(t.E i).key=(s.E i).key
 val: ∀i,(t.E i).val=(s.E i).val
 held: ∀i,(t.E i).held=(s.E i).held
theorem Sm.refl(s:CS κ ν):Sm s s:=⟨rfl,rfl,rfl,rfl,rfl,rfl,fun _=>rfl,fun _=>rfl,fun _=>rfl⟩
theorem Sm.trans{s t u:CS κ ν}(h:Sm s t)(k:Sm t u):Sm s u:=⟨k.room.trans h.room,k.bc.trans h.bc,k.misses.trans h.misses,k.gone.trans h.gone,k.bs.trans h.bs,k.look.trans h.look,fun i=>(k.key i).trans (h.key i),fun i=>(k.val i).trans (h.val i),fun i=>(k.held i).trans (h.held i)⟩
theorem Sm.setRow(s:CS κ ν)(r:Bool)(x:Rw):Sm s (s.setRow r x):=by cases r<;>exact⟨rfl,rfl,rfl,rfl,rfl,rfl,fun _=>rfl,fun _=>rfl,fun _=>rfl⟩
theorem ki(s:CS κ ν)(r:Bool)(x:Rw):(s.setRow r x).E=s.E:=by cases r<;>rfl
theorem iV(s:CS κ ν)(r:Bool)(x:Rw):(s.setRow r x).row r=x:=by cases r<;>rfl
theorem mB(s:CS κ ν){r q:Bool}(x:Rw)(h:q≠r):(s.setRow r x).row q=s.row q:=by cases r<;>cases q<;>first| rfl| exact absurd rfl h
theorem uX(s:CS κ ν)(b:Nat)(x:rB κ ν)(r:Bool):(s.pE b x).row r=s.row r:=by cases r<;>rfl
theorem gV(s:CS κ ν)(b i:Nat)(x:rB κ ν):(s.pE b x).E i=if i=b then x else s.E i:=rfl
theorem Sm.pE(s:CS κ ν)(b:Nat)(x:rB κ ν)(h1:x.key=(s.E b).key)(h2:x.val=(s.E b).val)(h3:x.held=(s.E b).held):Sm s (s.pE b x):=
 ⟨rfl,rfl,rfl,rfl,rfl,rfl,fun i=>by rw [gV];split<;>simp_all,fun i=>by rw [gV];split<;>simp_all,fun i=>by rw [gV];split<;>simp_all⟩
theorem Sm.oJ(s:CS κ ν)(r:Bool)(b a:Option Nat):Sm s (s.oJ r b a):=by
 cases b
 · exact Sm.setRow s r _
 · exact Sm.pE s _ _ rfl rfl rfl
theorem Sm.oK(s:CS κ ν)(r:Bool)(b a:Option Nat):Sm s (s.oK r b a):=by
 cases a
 · exact Sm.setRow s r _
 · exact Sm.pE s _ _ rfl rfl rfl
theorem Sm.join(s:CS κ ν)(r:Bool)(b a:Option Nat):Sm s (s.join r b a):=(Sm.oJ s r b a).trans (Sm.oK _ r b a)
theorem Sm.aZ(s:CS κ ν)(r:Bool)(e:Nat):Sm s (s.aZ r e):=(Sm.join s r _ _).trans (Sm.setRow _ r _)
theorem Sm.link(s:CS κ ν)(r:Bool)(b:Option Nat)(e:Nat)(a:Option Nat):Sm s (s.link r b e a):=((Sm.join s r _ _).trans (Sm.join _ r _ _)).trans (Sm.setRow _ r _)
def iM(E:Nat->rB κ ν):Option Nat->List Nat->Option Nat->Prop
 | _,[],_=>True
 | pb,x::l,pe=>(E x).eM=pb/\(E x).eV=l.head?.or pe/\iM E (some x) l pe
theorem wP(A B:List Nat)(pe:Option Nat):(A++B).head?.or pe=A.head?.or (B.head?.or pe):=by cases A<;>simp
theorem Ad(x:Nat)(A:List Nat)(pb:Option Nat):(x::A).getLast?.or pb=A.getLast?.or (some x):=by
 cases h:A.getLast? with
 | none=>rw [List.getLast?_eq_none_iff]at h;subst h;simp
 | some y=>rw [List.getLast?_cons,h];simp
theorem iM.append{E:Nat->rB κ ν}: ∀{A B:List Nat} {pb pe:Option Nat},iM E pb (A++B) pe↔iM E pb A (B.head?.or pe)/\iM E (A.getLast?.or pb) B pe
 | [],B,pb,pe=>by simp [iM]
 | x::A,B,pb,pe=>by
   show((E x).eM=pb/\(E x).eV=(A++B).head?.or pe/\iM E (some x) (A++B) pe)↔((E x).eM=pb/\(E x).eV=A.head?.or (B.head?.or pe)/\iM E (some x) A (B.head?.or pe))/\_
   rw [iM.append (A:=A),wP,Ad]
   constructor
   · rintro⟨a,b,c,d⟩;exact⟨⟨a,b,c⟩,d⟩
   · rintro⟨⟨a,b,c⟩,d⟩;exact⟨a,b,c,d⟩
theorem iM.congr{E E':Nat->rB κ ν}: ∀{l:List Nat} {pb pe:Option Nat},iM E pb l pe->(∀x∈l,(E' x).eM=(E x).eM/\(E' x).eV=(E x).eV)->iM E' pb l pe
 | [],_,_,_,_=>trivial
 | x::l,pb,pe,h,k=>⟨(k x (by simp)).1.trans h.1,(k x (by simp)).2.trans h.2.1,iM.congr h.2.2 fun y hy=>k y (by simp [hy])⟩
theorem iM.Bn{E E':Nat->rB κ ν}: ∀{l:List Nat} {pb pe Mp:Option Nat},iM E pb l pe->l.Nodup->(∀x∈l,(E' x).eM=(E x).eM)->(∀x∈l,l.getLast? ≠some x->(E' x).eV=(E x).eV)->(∀x,l.getLast? =some x->(E' x).eV=Mp)->iM E' pb l Mp
 | [],_,_,_,_,_,_,_,_=>trivial
 | [x],pb,pe,Mp,h,hn,k1,k2,k3=>⟨(k1 x (by simp)).trans h.1,by simpa using k3 x (by simp),trivial⟩
 | x::y::l,pb,pe,Mp,h,hn,k1,k2,k3=>by
   have hl:(x::y::l).getLast? =(y::l).getLast? :=by rw [List.getLast?_cons_cons]
   have hx:(y::l).getLast? ≠some x:=fun e=>(List.nodup_cons.1 hn).1 (List.mem_of_getLast? e)
   refine⟨(k1 x (by simp)).trans h.1,?_,?_⟩
   · rw [k2 x (by simp) (by rw [hl];exact hx),h.2.1];simp
   · exact iM.Bn h.2.2 (List.nodup_cons.1 hn).2 (fun z hz=>k1 z (by simp [hz])) (fun z hz hne=>k2 z (List.mem_cons_of_mem _ hz) (by rw [hl];exact hne)) (fun z hz=>k3 z (by rw [hl];exact hz))
theorem iM.Ht{E E':Nat->rB κ ν}{l:List Nat}{pb SG pe:Option Nat}(h:iM E pb l pe)(hn:l.Nodup)(k1: ∀x∈l,(E' x).eV=(E x).eV)(k2: ∀x∈l,l.head? ≠some x->(E' x).eM=(E x).eM)(k3: ∀x,l.head? =some x->(E' x).eM=SG):iM E' SG l pe:=by
 cases l with
 | nil=>trivial
 | cons x l=>
   refine⟨k3 x rfl,(k1 x (by simp)).trans h.2.1,h.2.2.congr fun y hy=>⟨k2 y (by simp [hy]) ?_,k1 y (by simp [hy])⟩⟩
   intro e
   simp at e
   subst e
   exact(List.nodup_cons.1 hn).1 hy
structure fU (s:CS κ ν) (r:Bool) (l:List Nat):Prop where
 first:(s.row r).first=l.head?
 last:(s.row r).last=l.getLast?
 count:(s.row r).count=l.length
 seg:iM s.E none l none
theorem kj(s:CS κ ν)(r:Bool)(b a:Option Nat)(i:Nat):((s.join r b a).E i).eM=if a=some i then b else(s.E i).eM:=by
 unfold CS.join CS.oK CS.oJ
 cases b<;>cases a<;>simp [CS.il,CS.lK,CS.pX,CS.pY,ki,gV]
 · rename_i a;by_cases h:i=a<;>simp [h,eq_comm]
 · rename_i b;by_cases h:i=b<;>simp [h]
 · rename_i b a;by_cases h:i=a<;>by_cases k:i=b<;>simp_all [eq_comm]
theorem ko(s:CS κ ν)(r:Bool)(b a:Option Nat)(i:Nat):((s.join r b a).E i).eV=if b=some i then a else(s.E i).eV:=by
 unfold CS.join CS.oK CS.oJ
 cases b<;>cases a<;>simp [CS.il,CS.lK,CS.pX,CS.pY,ki,gV]
 · rename_i a;by_cases h:i=a<;>simp [h,eq_comm]
 · rename_i b;by_cases h:i=b<;>simp [h,eq_comm]
 · rename_i b a;by_cases h:i=a<;>by_cases k:i=b<;>simp_all [eq_comm]
theorem fN(s:CS κ ν)(r:Bool)(b a:Option Nat):(s.join r b a).row r=⟨if b=none then a else(s.row r).first,if a=none then b else(s.row r).last,(s.row r).count⟩:=by
 unfold CS.join CS.oK CS.oJ
 cases b<;>cases a<;>simp [CS.il,CS.lK,CS.pX,CS.pY,iV,uX]
theorem pF(s:CS κ ν){r q:Bool}(b a:Option Nat)(h:q≠r):(s.join r b a).row q=s.row q:=by
 unfold CS.join CS.oK CS.oJ
 cases b<;>cases a<;>simp [CS.il,CS.lK,CS.pX,CS.pY,mB _ _ h,uX]
theorem fU.other{s t:CS κ ν}{q:Bool}{l:List Nat}(h:fU s q l)(hr:t.row q=s.row q)(hE: ∀x∈l,(t.E x).eM=(s.E x).eM/\(t.E x).eV=(s.E x).eV):fU t q l:=
 ⟨by rw [hr];exact h.first,by rw [hr];exact h.last,by rw [hr];exact h.count,h.seg.congr hE⟩
theorem or_none(a:Option Nat):a.or none=a:=by cases a<;>rfl
theorem fU.at{s:CS κ ν}{r:Bool}{A B:List Nat}{e:Nat}(h:fU s r (A++e::B)):(s.E e).eM=A.getLast? /\(s.E e).eV=B.head? :=by
 have:=(iM.append.1 h.seg).2
 exact⟨by rw [this.1,or_none],by rw [this.2.1,or_none]⟩
theorem fU.aZ{s:CS κ ν}{r:Bool}{A B:List Nat}{e:Nat}(h:fU s r (A++e::B))(hn:(A++e::B).Nodup):fU (s.aZ r e) r (A++B):=by
 obtain⟨hp,hx⟩:=h.at
 have hA:=(List.nodup_append.1 hn)
 have hB:=List.nodup_cons.1 hA.2.1
 have pZ: ∀x∈A,x∉B:=fun x ha hb=>hA.2.2 x ha x (by simp [hb]) rfl
 obtain⟨s1,s2⟩:=iM.append.1 h.seg
 obtain⟨_,_,s3⟩:=s2
 simp only [or_none]at*
 unfold CS.aZ
 rw [hp,hx]
 refine⟨?_,?_,?_,?_⟩
 · rw [CS.eo,iV,fN]
   simp only
   rcases List.eq_nil_or_concat A with rfl| ⟨A',x,rfl⟩
   · simp
   · rw [if_neg (by simp),h.first];simp
 · rw [CS.eo,iV,fN]
   simp only
   cases B with
   | nil=>simp
   | cons y B'=>rw [if_neg (by simp),h.last];simp [List.getLast?_append,List.getLast?_cons]
 · rw [CS.eo,iV,fN]
   simp only
   rw [h.count];simp;omega
 · rw [CS.eo,ki,iM.append]
   simp only [or_none]
   refine⟨s1.Bn hA.1 (fun x hx2=>?_) (fun x hx2 hne=>?_) (fun x hl=>?_),s3.Ht hB.2 (fun x hx2=>?_) (fun x hx2 hne=>?_) (fun x hl=>?_)⟩
   · rw [kj,if_neg fun q=>pZ x hx2 (List.mem_of_head? q)]
   · rw [ko,if_neg hne]
   · rw [ko,if_pos hl]
   · rw [ko,if_neg fun q=>pZ x (List.mem_of_getLast? q) hx2]
   · rw [kj,if_neg hne]
   · rw [kj,if_pos hl]
theorem Dn(s:CS κ ν)(r:Bool)(e i:Nat)(h:(s.E e).eV≠some i):((s.aZ r e).E i).eM=(s.E i).eM:=by
 unfold CS.aZ;rw [CS.eo,ki,kj,if_neg h]
theorem Dp(s:CS κ ν)(r:Bool)(e i:Nat)(h:(s.E e).eM≠some i):((s.aZ r e).E i).eV=(s.E i).eV:=by
 unfold CS.aZ;rw [CS.eo,ki,ko,if_neg h]
theorem ye(s:CS κ ν){r q:Bool}(e:Nat)(h:q≠r):(s.aZ r e).row q=s.row q:=by
 unfold CS.aZ;rw [CS.eo,mB _ _ h,pF _ _ _ h]
theorem fU.Ae{s:CS κ ν}{r q:Bool}{A B l:List Nat}{e:Nat}(h:fU s r (A++e::B))(k:fU s q l)(hq:q≠r)(hd: ∀x∈l,x∉A/\x∉B):fU (s.aZ r e) q l:=by
 obtain⟨hp,hx⟩:=h.at
 refine k.other (ye s e hq) fun x hx2=>⟨Dn s r e x ?_,Dp s r e x ?_⟩
 · rw [hx];exact fun q=>(hd x hx2).2 (List.mem_of_head? q)
 · rw [hp];exact fun q=>(hd x hx2).1 (List.mem_of_getLast? q)
theorem nA(s:CS κ ν)(r:Bool)(b:Option Nat)(e:Nat)(a:Option Nat)(i:Nat):((s.link r b e a).E i).eM=if a=some i then some e else if e=i then b else(s.E i).eM:=by
 unfold CS.link;rw [CS.eo,ki,kj,kj];simp
theorem nB(s:CS κ ν)(r:Bool)(b:Option Nat)(e:Nat)(a:Option Nat)(i:Nat):((s.link r b e a).E i).eV=if e=i then a else if b=some i then some e else(s.E i).eV:=by
 unfold CS.link;rw [CS.eo,ki,ko,ko];simp
theorem Dq(s:CS κ ν){r q:Bool}(b:Option Nat)(e:Nat)(a:Option Nat)(h:q≠r):(s.link r b e a).row q=s.row q:=by
 unfold CS.link;rw [CS.eo,mB _ _ h,pF _ _ _ h,pF _ _ _ h]
theorem fU.link{s:CS κ ν}{r:Bool}{A B:List Nat}{e:Nat}(h:fU s r (A++B))(hn:(A++B).Nodup)(he:e∉A++B):fU (s.link r A.getLast? e B.head?) r (A++e::B):=by
 have hA:=(List.nodup_append.1 hn)
 have pZ: ∀x∈A,x∉B:=fun x ha hb=>hA.2.2 x ha x hb rfl
 have Hu:e∉A:=fun q=>he (by simp [q])
 have Hv:e∉B:=fun q=>he (by simp [q])
 obtain⟨s1,s2⟩:=iM.append.1 h.seg
 simp only [or_none]at*
 refine⟨?_,?_,?_,?_⟩
 · unfold CS.link
   rw [CS.eo,iV,fN,fN]
   simp only
   rcases List.eq_nil_or_concat A with rfl| ⟨A',x,rfl⟩
   · simp
   · rw [if_neg (by simp),if_neg (by simp),h.first];simp
 · unfold CS.link
   rw [CS.eo,iV,fN,fN]
   simp only
   cases B with
   | nil=>simp
   | cons y B'=>rw [if_neg (by simp),if_neg (by simp),h.last];simp [List.getLast?_append,List.getLast?_cons]
 · unfold CS.link
   rw [CS.eo,iV,fN,fN]
   simp only
   rw [h.count];simp;omega
 · rw [iM.append]
   refine⟨s1.Bn hA.1 (fun x hx2=>?_) (fun x hx2 hne=>?_) (fun x hl=>?_),⟨?_,?_,s2.Ht hA.2.1 (fun x hx2=>?_) (fun x hx2 hne=>?_) (fun x hl=>?_)⟩⟩
   · rw [nA,if_neg fun q=>pZ x hx2 (List.mem_of_head? q),if_neg fun q:e=x=>Hu (q▸hx2)]
   · rw [nB,if_neg fun q:e=x=>Hu (q▸hx2),if_neg hne]
   · rw [nB,if_neg fun q:e=x=>Hu (q▸List.mem_of_getLast? hl),if_pos hl];simp
   · rw [nA,if_neg fun q=>Hv (List.mem_of_head? q),if_pos rfl];simp
   · rw [nB,if_pos rfl];simp
   · rw [nB,if_neg fun q:e=x=>Hv (q▸hx2),if_neg fun q=>pZ x (List.mem_of_getLast? q) hx2]
   · rw [nA,if_neg hne,if_neg fun q:e=x=>Hv (q▸hx2)]
   · rw [nA,if_pos hl]
theorem fU.FB{s:CS κ ν}{r q:Bool}{A B l:List Nat}{e:Nat}(k:fU s q l)(hq:q≠r)(hd: ∀x∈l,x∉A/\x∉B)(he:e∉l):fU (s.link r A.getLast? e B.head?) q l:=by
 refine k.other (Dq s _ e _ hq) fun x hx2=>⟨?_,?_⟩
 · rw [nA,if_neg fun q=>(hd x hx2).2 (List.mem_of_head? q),if_neg fun q:e=x=>he (q▸hx2)]
 · rw [nB,if_neg fun q:e=x=>he (q▸hx2),if_neg fun q=>(hd x hx2).1 (List.mem_of_getLast? q)]
end
end Go.Proofs.YtpdakmhnnkaafaaGreat.Ca
namespace Go.Proofs.YtpdakmhnnkaafaaGreat.Ca
set_option maxRecDepth 100000
set_option maxHeartbeats 40000000
set_option linter.unusedVariables false
set_option linter.unusedSimpArgs false
open Go.RowKit
attribute [local go_sem ↓] Go.wp_at_zero Go.wp_at_succ
theorem _root_.Go.Proofs.YtpdakmhnnkaafaaGreat.Fr.trans'{F:List Nat}{a b c:World}(h:Fr F a b)(k:Fr F b c):Fr F a c:=h.trans k (Gr.refl a F)
def cO:Option Nat->Value
 | none=> .pointer none
 | some b=> .pointer (some ⟨b,0,none⟩)
def PR(v:Value):Option (DataW Unit×List MemPlace):=match v with
 | .pointer none=>some (.lit (.int .i64 (-1)),[])
 | .pointer (some ⟨b,0,none⟩)=>some (.lit (.int .i64 (b:Nat)),[])
 | _=>none
theorem Ek:PR (.pointer none)=some (.lit (.int .i64 (-1)),[]):=rfl
theorem PJ{v:Value}{b:Nat}{ps:List MemPlace}(h:PR v=some (.lit (.int .i64 (b:Nat)),ps)):v= .pointer (some ⟨b,0,none⟩):=by
 unfold PR at h
 split at h
 · simp at h
 · simp at h;obtain⟨h1,_⟩:=h;have:_=b:=Int.ofNat.inj h1;rw [this]
 · cases h
theorem NI{v:Value}{ps:List MemPlace}(h:PR v=some (.lit (.int .i64 (-1)),ps)):v= .pointer none:=by
 unfold PR at h
 split at h
 · rfl
 · simp at h
 · cases h
end Go.Proofs.YtpdakmhnnkaafaaGreat.Ca
namespace Go.Proofs.YtpdakmhnnkaafaaGreat.Ca
set_option maxRecDepth 100000
set_option maxHeartbeats 40000000
set_option linter.unusedVariables false
set_option linter.unusedSimpArgs false
open Go.RowKit
attribute [local go_sem ↓] Go.wp_at_zero Go.wp_at_succ
def fV(k:Int):Value:= .int .i64 k
structure Ct where
 kd:Int
 sp:Option Addr
 n:Nat
 c:Nat
def ct0:Ct:=⟨0,none,0,0⟩
def av(v:Ct):List Value:= [.int .i64 v.kd, .slice v.sp v.n v.c]
def bV(v:Ct):Value:= .agg (av v).toArray
def jU(k:Int):Prop:= -9223372036854775808<=k/\k<=9223372036854775807
def lL(k:Int):Lit:= .int .i64 k
theorem wQ:Maps.Keyed Tryz.prog 3:=Maps.int_keyed Tryz.underlying3
theorem qa{k:Int}(h:jU k):WideAt.IsKeyLit (lL k)/\keyOf Tryz.prog 3 (fV k)=some (lL k):=by
 have hw:(Lit.int .i64 k).wf=true:=WalkArith.wf_i64 (by unfold jU at h;omega)
 exact⟨by first| trivial| exact hw| decide,Maps.keyOf_int_mk Tryz.underlying3 hw⟩
theorem jE{a b:Int}(h:lL a=lL b):a=b:=by simpa [lL]using h
abbrev bw:=CS Int Ct
def jh(x:rB Int Ct):Array Value:= #[fV x.key, .int .i64 x.val.kd, .slice x.val.sp x.val.n x.val.c, .bool x.held,cO x.eM,cO x.eV]
def ji(m:Nat)(s:bw):Array Value:= #[.int .i64 s.room, .map (some m),cO s.cl.first,cO s.cl.last, .int .i64 s.cl.count,cO s.hd.first,cO s.hd.last, .int .i64 s.hd.count, .int .i64 s.bc, .int .i64 s.misses, .int .i64 s.gone, .int .i64 0, .int .i64 0]
structure lS (M:DataW Unit) (look:Int->Option Nat):Prop where
 isMap:Maps.IsMap M
 no: ∀k,jU k->look k=none->Maps.has M (lL k)=false/\M.atKey (lL k) (.lit (.int .i64 (-1)))= .lit (.int .i64 (-1))
 yes: ∀k b,jU k->look k=some b->Maps.has M (lL k)=true/\M.atKey (lL k) (.lit (.int .i64 (-1)))= .lit (.int .i64 (b:Nat))
structure CK (w:World) (base p m n:Nat) (s:bw):Prop where
 cell:w.heap[p]? =some (.cells (ji m s) 126 (0,0))
 ents: ∀b∈s.bs,w.heap[b]? =some (.cells (jh (s.E b)) 130 (0,0))
 mp: ∃M,w.ownsMap Tryz.prog 3 PR m n M/\lS M s.look
 kwf: ∀b∈s.bs,jU (s.E b).key
 bp:base<=p
 bm:base<=m
 bb: ∀b∈s.bs,base<=b
def dD(p m:Nat)(s:bw):List Nat:=p::m::s.bs
theorem CK.fz{w:World}{base p m n:Nat}{s:bw}(h:CK w base p m n s)(k:Nat):w.frozen? ⟨p,k,none⟩=false:=frozen_of_row _ _ _ _ _ h.cell
theorem CK.fe{w:World}{base p m n:Nat}{s:bw}(h:CK w base p m n s){b:Nat}(hb:b∈s.bs)(k:Nat):w.frozen? ⟨b,k,none⟩=false:=frozen_of_row _ _ _ _ _ (h.ents b hb)
theorem CK.c0{w:World}{base p m n:Nat}{s:bw}(h:CK w base p m n s):w.cell? ⟨p,0,none⟩=some (.int .i64 s.room):=by rw [cell_of_row _ _ _ _ _ _ h.cell];rfl
theorem CK.c1{w:World}{base p m n:Nat}{s:bw}(h:CK w base p m n s):w.cell? ⟨p,1,none⟩=some (.map (some m)):=by rw [cell_of_row _ _ _ _ _ _ h.cell];rfl
theorem CK.c2{w:World}{base p m n:Nat}{s:bw}(h:CK w base p m n s):w.cell? ⟨p,2,none⟩=some (cO s.cl.first):=by rw [cell_of_row _ _ _ _ _ _ h.cell];rfl
theorem CK.c3{w:World}{base p m n:Nat}{s:bw}(h:CK w base p m n s):w.cell? ⟨p,3,none⟩=some (cO s.cl.last):=by rw [cell_of_row _ _ _ _ _ _ h.cell];rfl
theorem CK.c4{w:World}{base p m n:Nat}{s:bw}(h:CK w base p m n s):w.cell? ⟨p,4,none⟩=some (.int .i64 s.cl.count):=by rw [cell_of_row _ _ _ _ _ _ h.cell];rfl
theorem CK.c5{w:World}{base p m n:Nat}{s:bw}(h:CK w base p m n s):w.cell? ⟨p,5,none⟩=some (cO s.hd.first):=by rw [cell_of_row _ _ _ _ _ _ h.cell];rfl
theorem CK.c6{w:World}{base p m n:Nat}{s:bw}(h:CK w base p m n s):w.cell? ⟨p,6,none⟩=some (cO s.hd.last):=by rw [cell_of_row _ _ _ _ _ _ h.cell];rfl
theorem CK.c7{w:World}{base p m n:Nat}{s:bw}(h:CK w base p m n s):w.cell? ⟨p,7,none⟩=some (.int .i64 s.hd.count):=by rw [cell_of_row _ _ _ _ _ _ h.cell];rfl
theorem CK.c8{w:World}{base p m n:Nat}{s:bw}(h:CK w base p m n s):w.cell? ⟨p,8,none⟩=some (.int .i64 s.bc):=by rw [cell_of_row _ _ _ _ _ _ h.cell];rfl
theorem CK.c9{w:World}{base p m n:Nat}{s:bw}(h:CK w base p m n s):w.cell? ⟨p,9,none⟩=some (.int .i64 s.misses):=by rw [cell_of_row _ _ _ _ _ _ h.cell];rfl
theorem CK.c10{w:World}{base p m n:Nat}{s:bw}(h:CK w base p m n s):w.cell? ⟨p,10,none⟩=some (.int .i64 s.gone):=by rw [cell_of_row _ _ _ _ _ _ h.cell];rfl
theorem CK.ev{w:World}{base p m n:Nat}{s:bw}(h:CK w base p m n s){b:Nat}(hb:b∈s.bs):w.rangeAt b 1 (av (s.E b).val):=fun j v hv=>by
 rw [cell_of_row _ _ _ _ _ _ (h.ents b hb)]
 match j,hv with
 | 0,hv=>exact hv
 | 1,hv=>exact hv
 | j+2,hv=>simp [av]at hv
theorem CK.eh{w:World}{base p m n:Nat}{s:bw}(h:CK w base p m n s){b:Nat}(hb:b∈s.bs):w.cell? ⟨b,3,none⟩=some (.bool (s.E b).held):=by rw [cell_of_row _ _ _ _ _ _ (h.ents b hb)];rfl
theorem CK.ep{w:World}{base p m n:Nat}{s:bw}(h:CK w base p m n s){b:Nat}(hb:b∈s.bs):w.cell? ⟨b,4,none⟩=some (cO (s.E b).eM):=by rw [cell_of_row _ _ _ _ _ _ (h.ents b hb)];rfl
theorem CK.en{w:World}{base p m n:Nat}{s:bw}(h:CK w base p m n s){b:Nat}(hb:b∈s.bs):w.cell? ⟨b,5,none⟩=some (cO (s.E b).eV):=by rw [cell_of_row _ _ _ _ _ _ (h.ents b hb)];rfl
theorem CK.pm{w:World}{base p m n:Nat}{s:bw}(h:CK w base p m n s):p≠m:=by
 obtain⟨M,⟨es,clock,hb,_⟩,_⟩:=h.mp
 intro e;rw [<-e,h.cell]at hb;cases hb
theorem CK.eb{w:World}{base p m n:Nat}{s:bw}(h:CK w base p m n s){b:Nat}(hb:b∈s.bs):b≠p/\b≠m:=by
 refine⟨cL (h.ents b hb) h.cell (by decide),?_⟩
 obtain⟨M,⟨es,clock,hm,_⟩,_⟩:=h.mp
 intro e;rw [<-e,h.ents b hb]at hm;cases hm
theorem jZ{w w1:World}{b n:Nat}{M:DataW Unit}(h:w.ownsMap Tryz.prog 3 PR b n M)(hk:w1.heap[b]? =w.heap[b]?):w1.ownsMap Tryz.prog 3 PR b n M:=by
 obtain⟨es,clock,hb,F,hs,hD⟩:=h
 exact⟨es,clock,hk.trans hb,F,hs,hD⟩
theorem CK.yg{w:World}{base p m n:Nat}{s s':bw}(h:CK w base p m n s)(k:Nat)(v:Value)(hc:(ji m s).setIfInBounds k v=ji m s')(hE:s'.E=s.E)(hb:s'.bs=s.bs)(hl:s'.look=s.look):
   CK (w.setCell ⟨p,k,none⟩ v) base p m n s':=by
 have hne: ∀i,i≠p->(w.setCell ⟨p,k,none⟩ v).heap[i]? =w.heap[i]? :=fun i hi=>heap_setCell_other w _ i v hi
 refine⟨?_,fun b q=>?_,?_,by rw [hE,hb];exact h.kwf,h.bp,h.bm,by rw [hb];exact h.bb⟩
 · rw [heap_setCell_same _ _ _ _ _ _ h.cell,<-hc]
 · rw [hb]at q;rw [hE,hne b (h.eb q).1];exact h.ents b q
 · obtain⟨M,a,b⟩:=h.mp
   exact⟨M,jZ a (hne _ h.pm.symm),hl▸b⟩
theorem CK.Kw{w:World}{base p m n:Nat}{s:bw}(h:CK w base p m n s){b:Nat}(hb:b∈s.bs)(k:Nat)(v:Value)(x:rB Int Ct)(hc:(jh (s.E b)).setIfInBounds k v=jh x)(hk:x.key=(s.E b).key):
   CK (w.setCell ⟨b,k,none⟩ v) base p m n (s.pE b x):=by
 have hne: ∀i,i≠b->(w.setCell ⟨b,k,none⟩ v).heap[i]? =w.heap[i]? :=fun i hi=>heap_setCell_other w _ i v hi
 refine⟨(hne p (h.eb hb).1.symm).trans h.cell,fun i q=>?_,?_,fun i q=>?_,h.bp,h.bm,h.bb⟩
 · rw [gV]
   by_cases e:i=b
   · subst e;rw [if_pos rfl,heap_setCell_same _ _ _ _ _ _ (h.ents i hb),<-hc]
   · rw [if_neg e,hne i e];exact h.ents i q
 · obtain⟨M,a,c⟩:=h.mp
   exact⟨M,jZ a (hne _ (h.eb hb).2.symm),c⟩
 · rw [gV]
   by_cases e:i=b
   · subst e;rw [if_pos rfl,hk];exact h.kwf i hb
   · rw [if_neg e];exact h.kwf i q
def eA:Bool->Nat
 | true=>2
 | false=>5
theorem CK.first{w:World}{base p m n:Nat}{s:bw}(h:CK w base p m n s)(r:Bool)(a:Option Nat):CK (w.setCell ⟨p,eA r,none⟩ (cO a)) base p m n (s.il r a):=by
 cases r<;>exact h.yg _ _ (by simp [ji,CS.il,CS.setRow,CS.row,eA]) rfl rfl rfl
theorem CK.last{w:World}{base p m n:Nat}{s:bw}(h:CK w base p m n s)(r:Bool)(a:Option Nat):CK (w.setCell ⟨p,eA r+1,none⟩ (cO a)) base p m n (s.lK r a):=by
 cases r<;>exact h.yg _ _ (by simp [ji,CS.lK,CS.setRow,CS.row,eA]) rfl rfl rfl
theorem CK.count{w:World}{base p m n:Nat}{s:bw}(h:CK w base p m n s)(r:Bool)(a:Int):CK (w.setCell ⟨p,eA r+2,none⟩ (.int .i64 a)) base p m n (s.eo r a):=by
 cases r<;>exact h.yg _ _ (by simp [ji,CS.eo,CS.setRow,CS.row,eA]) rfl rfl rfl
theorem CK.eV{w:World}{base p m n:Nat}{s:bw}(h:CK w base p m n s){b:Nat}(hb:b∈s.bs)(a:Option Nat):CK (w.setCell ⟨b,5,none⟩ (cO a)) base p m n (s.pX b a):=h.Kw hb _ _ _ (by simp [jh]) rfl
theorem CK.eM{w:World}{base p m n:Nat}{s:bw}(h:CK w base p m n s){b:Nat}(hb:b∈s.bs)(a:Option Nat):CK (w.setCell ⟨b,4,none⟩ (cO a)) base p m n (s.pY b a):=h.Kw hb _ _ _ (by simp [jh]) rfl
theorem CK.held{w:World}{base p m n:Nat}{s:bw}(h:CK w base p m n s){b:Nat}(hb:b∈s.bs)(a:Bool):CK (w.setCell ⟨b,3,none⟩ (.bool a)) base p m n (s.bU b a):=h.Kw hb _ _ _ (by simp [jh]) rfl
theorem kV(p m:Nat)(s:bw):p∈dD p m s:=by simp [dD]
theorem Mq(p m:Nat)(s:bw):m∈dD p m s:=by simp [dD]
theorem tW{p m:Nat}{s:bw}{b:Nat}(h:b∈s.bs):b∈dD p m s:=by simp [dD,h]
theorem sR(s:bw)(r:Bool)(x:Rw):(s.setRow r x).bs=s.bs:=by cases r<;>rfl
def LN(base p m n:Nat)(s:bw)(w:World)(t:bw)(w':World):Prop:=CK w' base p m n t/\Fr (dD p m s) w w'/\t.bs=s.bs
theorem LN.trans{base p m n:Nat}{s t u:bw}{w w1 w2:World}(h:LN base p m n s w t w1)(k:LN base p m n t w1 u w2):LN base p m n s w u w2:=
 ⟨k.1,h.2.1.trans' (by have:=k.2.1;rwa [show dD p m t=dD p m s by simp [dD,h.2.2]]at this),k.2.2.trans h.2.2⟩
def kW(s:bw)(a:Option Nat):Prop:= ∀x,a=some x->x∈s.bs
theorem Ky(w:World)(base p m n:Nat)(s:bw)(h:CK w base p m n s)(r:Bool)(b a:Option Nat)(hb:kW s b)(ha:kW s a):
   Calls Tryz.prog 93 #[.pointer (some ⟨p,eA r,none⟩),cO b,cO a] w fun e w'=>e= .returned (.tuple #[])/\LN base p m n s w (s.join r b a) w':=by
 cases b with
 | none=>
   have f0:=h.fz (eA r)
   have c0:w.cell? ⟨p,eA r,none⟩=some (cO (s.row r).first):=by cases r<;>first| exact h.c2| exact h.c5
   have h1:=h.first r a
   cases a with
   | none=>
     have f1:=h1.fz (eA r+1)
     have c1:(w.setCell ⟨p,eA r,none⟩ (cO none)).cell? ⟨p,eA r+1,none⟩=some (cO (s.row r).last):=by cases r<;>first| exact h1.c3| exact h1.c6
     have hL:LN base p m n s w (s.join r none none) ((w.setCell ⟨p,eA r,none⟩ (cO none)).setCell ⟨p,eA r+1,none⟩ (cO none)):=⟨h1.last r none,((Fr.refl _ w).setCell (kV p m s) _ _).setCell (kV p m s) _ _,(Sm.join s r none none).bs⟩
     clear h h1
     generalize eA r=o at*
     simp only [cO]at*
     go_enter Tryz.func93,Tryz.ntmps93
     go_wp2
     go_end0
     exact⟨rfl,hL⟩
   | some y=>
     have hy:=ha y rfl
     have f1:=h1.fe (b:=y) (by rw [CS.il,sR];exact hy) 4
     have c1:=h1.ep (b:=y) (by rw [CS.il,sR];exact hy)
     have hL:LN base p m n s w (s.join r none (some y)) ((w.setCell ⟨p,eA r,none⟩ (cO (some y))).setCell ⟨y,4,none⟩ (cO none)):=⟨h1.eM (by rw [CS.il,sR];exact hy) none,((Fr.refl _ w).setCell (kV p m s) _ _).setCell (tW hy) _ _,(Sm.join s r none (some y)).bs⟩
     clear h h1
     generalize eA r=o at*
     simp only [cO]at*
     go_enter Tryz.func93,Tryz.ntmps93
     go_wp2
     go_end0
     exact⟨rfl,hL⟩
 | some x=>
   have hx:=hb x rfl
   have f0:=h.fe hx 5
   have c0:=h.en hx
   have h1:=h.eV hx a
   cases a with
   | none=>
     have f1:=h1.fz (eA r+1)
     have c1:(w.setCell ⟨x,5,none⟩ (cO none)).cell? ⟨p,eA r+1,none⟩=some (cO (s.row r).last):=by cases r<;>first| exact h1.c3| exact h1.c6
     have hL:LN base p m n s w (s.join r (some x) none) ((w.setCell ⟨x,5,none⟩ (cO none)).setCell ⟨p,eA r+1,none⟩ (cO (some x))):=⟨h1.last r (some x),((Fr.refl _ w).setCell (tW hx) _ _).setCell (kV p m s) _ _,(Sm.join s r (some x) none).bs⟩
     clear h h1
     generalize eA r=o at*
     simp only [cO]at*
     go_enter Tryz.func93,Tryz.ntmps93
     go_wp2
     go_end0
     exact⟨rfl,hL⟩
   | some y=>
     have hy:=ha y rfl
     have f1:=h1.fe (b:=y) hy 4
     have c1:=h1.ep (b:=y) hy
     have hL:LN base p m n s w (s.join r (some x) (some y)) ((w.setCell ⟨x,5,none⟩ (cO (some y))).setCell ⟨y,4,none⟩ (cO (some x))):=⟨h1.eM hy (some x),((Fr.refl _ w).setCell (tW hx) _ _).setCell (tW hy) _ _,(Sm.join s r (some x) (some y)).bs⟩
     clear h h1
     simp only [cO]at*
     go_enter Tryz.func93,Tryz.ntmps93
     go_wp2
     go_end0
     exact⟨rfl,hL⟩
end Go.Proofs.YtpdakmhnnkaafaaGreat.Ca

import Derived.Maps.RangeWalk
import Derived.Test.YtpdakmhnnkaafaaGreatR27
namespace Go.Proofs.YtpdakmhnnkaafaaGreat
set_option maxRecDepth 100000
set_option maxHeartbeats 40000000
set_option linter.unusedVariables false
set_option linter.unusedSimpArgs false
open Go.RowKit
open Go.Proofs.YtpdakmhnnkaafaaGreat.Ca (Ct ct0 av bV AS)
attribute [local go_sem ↓] Go.wp_at_zero Go.wp_at_succ
theorem yG(w:World)(pages width ra rb:Int)(sp:Option Addr)(cap:Nat)(os:List LO)(hL:TZ w w.heap.size sp os)(hc:os.length<=cap)(gH:os.length<=1048576):
   Calls Tryz.prog 3 #[.int .i64 pages, .int .i64 width, .int .i64 ra, .int .i64 rb, .slice sp os.length cap] w fun e w'=>e= .returned (.bool true)/\Below w.heap.size w w':=by
 have Hj:=aa hL
 obtain⟨base,hbase⟩: ∃base,base=w.heap.size:=⟨_,rfl⟩
 have lV:=aa hbase
 have KP:=aa (fun w'=>nc w' pages 3 24 (by omega) (by omega) (by omega))
 have KW:=aa (fun w'=>nc w' width 1 32 (by omega) (by omega) (by omega))
 have KA:=aa (fun w'=>nc w' ra 0 4096 (by omega) (by omega) (by omega))
 have KB:=aa (fun w'=>nc w' rb 0 4096 (by omega) (by omega) (by omega))
 have hp:=oN pages 3 24 (by omega)
 have hw:=oN width 1 32 (by omega)
 have ha:=oN ra 0 4096 (by omega)
 have hb:=oN rb 0 4096 (by omega)
 generalize ld pages 3 24=ni at*
 generalize ld width 1 32=wd at*
 generalize ld ra 0 4096=ka at*
 generalize ld rb 0 4096=kb at*
 obtain⟨n,rfl⟩: ∃k:Nat,ni=(k:Int):=⟨ni.toNat,by omega⟩
 have Ub:=aa ha
 have Jl:=aa hb
 have zR:=aa (And.intro hp hw)
 have Ik:(n:Int)<=24:=hp.2
 clear hL hbase ha hb hp hw
 have Uc:=aa gH
 generalize hn:os.length=m at*
 have HN:=aa hn
 clear hn
 go_enter Tryz.func3,Tryz.ntmps3
 go_wp2_with fail
 refine(KP.out w).mono ?_
 rintro _ wx ⟨rfl,hx⟩
 obtain rfl:=hx.symm
 go_wp2_with fail
 refine(KW.out w).mono ?_
 rintro _ wx ⟨rfl,hx⟩
 obtain rfl:=hx.symm
 go_wp2_with fail
 refine(KW.out w).mono ?_
 rintro _ wx ⟨rfl,hx⟩
 obtain rfl:=hx.symm
 go_wp2_with fail
 obtain⟨w1,hw1⟩: ∃w1,w1=((w.alloc (.cells #[.int .i64 n, .int .i64 wd, .int .i64 n, .int .i64 wd] 25)).alloc (.cells #[.slice none 0 0, .slice none 0 0, .pointer none, .slice none 0 0, .slice none 0 0, .int .i64 0, .slice none 0 0] 33)).alloc (.cells #[.slice none 0 0, .slice none 0 0, .pointer none, .slice none 0 0, .slice none 0 0, .int .i64 0, .slice none 0 0] 33):=⟨_,rfl⟩
 obtain⟨z1,r0,r1,r2,b01⟩:=al3 w _ _ _ _ _ _ w1 hw1
 rw [<-hw1]
 have HB01:=aa b01
 have HR:Hid (w1.heap[w.heap.size]? =some (.cells #[.int .i64 n, .int .i64 wd, .int .i64 n, .int .i64 wd] 25 (0,0))/\w1.heap[w.heap.size+1]? =some (.cells (wr0 (.slice none 0 0)) 33 (0,0))/\w1.heap[w.heap.size+1+1]? =some (.cells (wr0 (.slice none 0 0)) 33 (0,0))):=aa ⟨r0,r1,r2⟩
 have HZ1:=aa z1
 clear hw1 z1 r0 r1 r2 b01 KP KW
 refine(zN w1 base (w.heap.size+1) HR.out.2.1 (by rw [lV.out];omega) n n wd wd ⟨zR.out.1.1|>Int.ofNat_le.1,by omega⟩ ⟨zR.out.1.1|>Int.ofNat_le.1,by omega⟩ zR.out.2 zR.out.2).mono ?_
 rintro e w2 ⟨rfl,X,hX,gX,nX,x1,x2,xb,xf,xp⟩
 have HX:=aa (And.intro hX (And.intro gX (And.intro nX (And.intro x1 (And.intro x2 (And.intro xb (And.intro xf xp)))))))
 have r0:=(xf.block (w.heap.size) (aC HR.out.1) (fun q=>by have:=List.mem_singleton.1 q;omega)).trans HR.out.1
 have r2:=(xf.block (w.heap.size+1+1) (aC HR.out.2.2) (fun q=>by have:=List.mem_singleton.1 q;omega)).trans HR.out.2.2
 have HR2:=aa r2
 have q0:w2.cell? ⟨w.heap.size,0,none⟩=some (.int .i64 n):=by rw [cell_of_row _ _ _ _ _ _ r0];rfl
 have q1:w2.cell? ⟨w.heap.size,1,none⟩=some (.int .i64 wd):=by rw [cell_of_row _ _ _ _ _ _ r0];rfl
 have q2:w2.cell? ⟨w.heap.size,2,none⟩=some (.int .i64 n):=by rw [cell_of_row _ _ _ _ _ _ r0];rfl
 have q3:w2.cell? ⟨w.heap.size,3,none⟩=some (.int .i64 wd):=by rw [cell_of_row _ _ _ _ _ _ r0];rfl
 clear hX gX nX x1 x2 xb xf xp r0 r2
 go_wp2_with fail
 refine(zN w2 base (w.heap.size+1+1) HR2.out (by rw [lV.out];omega) n n wd wd ⟨zR.out.1.1|>Int.ofNat_le.1,by omega⟩ ⟨zR.out.1.1|>Int.ofNat_le.1,by omega⟩ zR.out.2 zR.out.2).mono ?_
 rintro e w3 ⟨rfl,Y,hY,gY,nY,y1,y2,yb,yf,yp⟩
 have HY:=aa (And.intro hY (And.intro gY (And.intro nY (And.intro y1 (And.intro y2 (And.intro yb (And.intro yf yp)))))))
 clear hY gY nY y1 y2 yb yf yp q0 q1 q2 q3
 go_wp2_with fail
 refine(IQ w3).mono ?_
 rintro _ w4 ⟨rfl,hb4⟩
 have HB4:=aa hb4
 clear hb4
 go_wp2_with fail
 have HC0:=aa hc
 have JJ:LR w w4 base (w.heap.size+1) (w.heap.size+1+1) n 0:=by
   obtain⟨hX,gX,nX,x1,x2,xb,xf,xp⟩:=HX.out
   obtain⟨hY,gY,nY,y1,y2,yb,yf,yp⟩:=HY.out
   exact LG (Nat.le_of_eq lV.out) (by rw [lV.out];exact HB01.out) (by omega) (by rw [HZ1.out];omega) hX gX nX x1 x2 xb xf xp hY gY nY y1 y2 yb yf yp HB4.out
 clear HX HY HR HR2 HZ1 HB01 HB4
 go_loopw [15] (fun i wr=> ∃j:Nat,j<=m/\i= .int .i64 j/\LR w wr base (w.heap.size+1) (w.heap.size+1+1) n j) (fun i _=>m-(intOf i).toNat)
 case atStart=>exact⟨0,Nat.zero_le _,rfl,JJ⟩
 case round=>
   clear JJ
   obtain⟨j,hj,rfl,Rl⟩:=hrel
   by_cases rZ:j<m
   · have i1:(j:Int)<(m:Int):=by omega
     obtain⟨bk,f0,hsp,hrows⟩:=Hj.out
     obtain⟨hbk,rfl⟩:=hsp (by rw [HN.out];omega)
     obtain⟨tp,tc,rj,hsrc,eD,h8,hzl,hat,hn6⟩:=hrows j (by rw [HN.out];exact rZ)
     clear hsp hrows
     generalize os.getD j dO=x at*
     obtain⟨kd,at_,nn,mm,zr,bt⟩:=x
     replace rj:w.rangeAt bk (f0+j*6) (aK kd at_ nn mm (.slice tp zr.length tc) bt).toList:=rj
     replace hsrc:Src w tp tc zr:=hsrc
     replace eD:0<zr.length-> ∀a,tp=some a->a.block<w.heap.size:=eD
     replace h8:aS zr:=h8
     replace hzl:zr.length<=140737488352000:=hzl
     replace hat: -9223372036854775808<=at_/\at_<=9223372036854775807:=hat
     replace hn6:nn<=9223372036854775807:=hn6
     rw [<-lV.out]at hbk eD
     obtain⟨X,Y,P,hX,hY,gX,gY,vX,vY,ap,gI,hB⟩:=Rl
     have rj2:=yL rj hB hbk
     have cX:base<=wr.heap.size:=by have:=hB.size;rw [lV.out];exact this
     have fw:=aa cX
     have Rn:=aa (show LR w wr base (w.heap.size+1) (w.heap.size+1+1) n j from⟨X,Y,P,hX,hY,gX,gY,vX,vY,ap,gI,hB⟩)
     have WJ:=aq wr (.cells (aK kd at_ nn mm (.slice tp zr.length tc) bt) 38)
     have RY:=aa (Rn.out.more.below WJ cX)
     have EK:=aa (show(Tryz.prog.info? 38).map (·.size)=some (aK kd at_ nn mm (.slice tp zr.length tc) bt).size by rw [fP];rfl)
     have JK:=aa (show(aK kd at_ nn mm (.slice tp zr.length tc) bt).all (·.oneCell')=true by simp [aK,Value.oneCell'])
     have q0:(wr.alloc (.cells (aK kd at_ nn mm (.slice tp zr.length tc) bt) 38)).cell? ⟨wr.heap.size,0,none⟩=some (.int .i64 kd):=by rw [cell_of_row _ _ _ _ _ _ (aF wr _)];rfl
     by_cases h14:kd=14
     · subst h14
       clear hX hY gX gY vX vY ap gI hB hsrc eD h8 hzl hat hn6 rj
       go_wp2_with (first| (refine wpList_load_mid rfl 38 _ rfl bk (f0+j*6) rfl (aK 14 at_ nn mm (.slice tp zr.length tc) bt).toList _ rj2 Tryz.underlying38 rfl EK.out ?_)| (refine wpList_store_row rfl 38 (.tmp 16) (.tmp 56) rfl wr.heap.size (aK 14 at_ nn mm (.slice tp zr.length tc) bt).toList.toArray rfl rfl 38 _ (aF wr (.cells #[.int .i64 0, .int .i64 0, .int .i64 0, .int .i64 0, .slice none 0 0, .int .u32 0] 38)) (by rw [Array.toArray_toList];exact EK.out) rfl (by rw [Array.toArray_toList];exact JK.out) ?_;rw [aP,Array.toArray_toList]))
       go_roundw
       case rel=>exact⟨j+1,by omega,by go_num,RY.out⟩
       case measure=>simp [intOf];omega
     have HST:=aa (fun(wz:World) (Z:WD) (na:Int) (hZ:WI wz base Z (1000+200*j) j) (hV:lu Z P) (hb:Below base w wz) (WK:na<=9223372036854775807) (hn1:kd=1->0<=na/\na<=4096)=>Oq wz base Z (1000+200*j) j P hZ hV (by have:=Uc.out;omega) (by have:=Uc.out;omega) kd at_ na mm h14 hat WK hn1 zr h8 hzl tp zr.length tc bt rfl (FT hsrc hb eD) eD)
     have HX:=aa (And.intro hX (And.intro gX (And.intro vX gI)))
     have HY:=aa (And.intro hY (And.intro gY vY))
     have sY:=aa ap
     have HB:=aa hB
     have HN6:=aa hn6
     clear hX hY gX gY vX vY ap gI hB hsrc eD h8 hzl hat hn6 rj
     have ro2:=Ca.hold2 wr (.cells (aK kd at_ nn mm (.slice tp zr.length tc) bt) 38) (.cells (aK kd at_ nn mm (.slice tp zr.length tc) bt) 38)
     have rp2:=Ca.hnew2 wr (.cells (aK kd at_ nn mm (.slice tp zr.length tc) bt) 38) (.cells (aK kd at_ nn mm (.slice tp zr.length tc) bt) 38)
     have b2:=Ca.below2 wr (.cells (aK kd at_ nn mm (.slice tp zr.length tc) bt) 38) (.cells (aK kd at_ nn mm (.slice tp zr.length tc) bt) 38)
     have qq0:((wr.alloc (.cells (aK kd at_ nn mm (.slice tp zr.length tc) bt) 38)).alloc (.cells (aK kd at_ nn mm (.slice tp zr.length tc) bt) 38)).cell? ⟨wr.heap.size,0,none⟩=some (.int .i64 kd):=by rw [cell_of_row _ _ _ _ _ _ ro2];rfl
     by_cases h1:kd=1
     · subst h1
       clear h14
       have cc2:((wr.alloc (.cells (aK 1 at_ nn mm (.slice tp zr.length tc) bt) 38)).alloc (.cells (aK 1 at_ nn mm (.slice tp zr.length tc) bt) 38)).cell? ⟨wr.heap.size,2,none⟩=some (.int .i64 nn):=by rw [cell_of_row _ _ _ _ _ _ ro2];rfl
       have ff2:((wr.alloc (.cells (aK 1 at_ nn mm (.slice tp zr.length tc) bt) 38)).alloc (.cells (aK 1 at_ nn mm (.slice tp zr.length tc) bt) 38)).frozen? ⟨wr.heap.size,2,none⟩=false:=frozen_of_row _ _ _ _ _ ro2
       have rp3:=Ca.hnew2 wr (.cells ((aK 1 at_ nn mm (.slice tp zr.length tc) bt).setIfInBounds 2 (.int .i64 ka)) 38) (.cells (aK 1 at_ nn mm (.slice tp zr.length tc) bt) 38)
       have cc3:((wr.alloc (.cells ((aK 1 at_ nn mm (.slice tp zr.length tc) bt).setIfInBounds 2 (.int .i64 ka)) 38)).alloc (.cells (aK 1 at_ nn mm (.slice tp zr.length tc) bt) 38)).cell? ⟨wr.heap.size+1,2,none⟩=some (.int .i64 nn):=by rw [cell_of_row _ _ _ _ _ _ rp3];rfl
       have ff3:((wr.alloc (.cells ((aK 1 at_ nn mm (.slice tp zr.length tc) bt).setIfInBounds 2 (.int .i64 ka)) 38)).alloc (.cells (aK 1 at_ nn mm (.slice tp zr.length tc) bt) 38)).frozen? ⟨wr.heap.size+1,2,none⟩=false:=frozen_of_row _ _ _ _ _ rp3
       have ro4:=Ca.hold2 wr (.cells ((aK 1 at_ nn mm (.slice tp zr.length tc) bt).setIfInBounds 2 (.int .i64 ka)) 38) (.cells ((aK 1 at_ nn mm (.slice tp zr.length tc) bt).setIfInBounds 2 (.int .i64 kb)) 38)
       have rp4:=Ca.hnew2 wr (.cells ((aK 1 at_ nn mm (.slice tp zr.length tc) bt).setIfInBounds 2 (.int .i64 ka)) 38) (.cells ((aK 1 at_ nn mm (.slice tp zr.length tc) bt).setIfInBounds 2 (.int .i64 kb)) 38)
       have b4:=Ca.below2 wr (.cells ((aK 1 at_ nn mm (.slice tp zr.length tc) bt).setIfInBounds 2 (.int .i64 ka)) 38) (.cells ((aK 1 at_ nn mm (.slice tp zr.length tc) bt).setIfInBounds 2 (.int .i64 kb)) 38)
       have HO4:Hid (((wr.alloc (.cells ((aK 1 at_ nn mm (.slice tp zr.length tc) bt).setIfInBounds 2 (.int .i64 ka)) 38)).alloc (.cells ((aK 1 at_ nn mm (.slice tp zr.length tc) bt).setIfInBounds 2 (.int .i64 kb)) 38)).heap[wr.heap.size]? =some (.cells (aK 1 at_ ka mm (.slice tp zr.length tc) bt) 38 (0,0))/\((wr.alloc (.cells ((aK 1 at_ nn mm (.slice tp zr.length tc) bt).setIfInBounds 2 (.int .i64 ka)) 38)).alloc (.cells ((aK 1 at_ nn mm (.slice tp zr.length tc) bt).setIfInBounds 2 (.int .i64 kb)) 38)).heap[wr.heap.size+1]? =some (.cells (aK 1 at_ kb mm (.slice tp zr.length tc) bt) 38 (0,0))/\Below wr.heap.size wr ((wr.alloc (.cells ((aK 1 at_ nn mm (.slice tp zr.length tc) bt).setIfInBounds 2 (.int .i64 ka)) 38)).alloc (.cells ((aK 1 at_ nn mm (.slice tp zr.length tc) bt).setIfInBounds 2 (.int .i64 kb)) 38))):=aa ⟨ro4,rp4,b4⟩
       clear ro2 rp2 b2 rp3 ro4 rp4 b4
       go_wp2_with (first| (refine wpList_load_mid rfl 38 _ rfl bk (f0+j*6) rfl (aK 1 at_ nn mm (.slice tp zr.length tc) bt).toList _ rj2 Tryz.underlying38 rfl EK.out ?_)| (refine wpList_store_row rfl 38 (.tmp 16) (.tmp 56) rfl wr.heap.size (aK 1 at_ nn mm (.slice tp zr.length tc) bt).toList.toArray rfl rfl 38 _ (aF wr (.cells #[.int .i64 0, .int .i64 0, .int .i64 0, .int .i64 0, .slice none 0 0, .int .u32 0] 38)) (by rw [Array.toArray_toList];exact EK.out) rfl (by rw [Array.toArray_toList];exact JK.out) ?_;rw [aP,Array.toArray_toList])| (refine wpList_load_row rfl 38 (.tmp 16) rfl wr.heap.size rfl 38 (aK 1 at_ nn mm (.slice tp zr.length tc) bt) _ _ (aF wr (.cells (aK 1 at_ nn mm (.slice tp zr.length tc) bt) 38)) Tryz.underlying38 rfl (by rw [fP];rfl) ?_)| (refine wpList_store_row rfl 38 (.tmp 17) (.tmp 60) rfl (wr.heap.size+1) (aK 1 at_ nn mm (.slice tp zr.length tc) bt) rfl rfl 38 _ (Ca.hnew2 wr (.cells (aK 1 at_ nn mm (.slice tp zr.length tc) bt) 38) (.cells #[.int .i64 0, .int .i64 0, .int .i64 0, .int .i64 0, .slice none 0 0, .int .u32 0] 38)) (by rw [fP];rfl) rfl JK.out ?_;rw [Ca.mE]))
       refine(KA.out _).mono ?_
       rintro _ wx ⟨rfl,hx⟩
       obtain rfl:=hx.symm
       go_wp2_with fail
       refine(KB.out _).mono ?_
       rintro _ wx ⟨rfl,hx⟩
       obtain rfl:=hx.symm
       go_wp2_with (first| (refine wpList_load_row rfl 38 (.tmp 16) rfl wr.heap.size rfl 38 (aK 1 at_ ka mm (.slice tp zr.length tc) bt) _ _ HO4.out.1 Tryz.underlying38 rfl (by rw [fP];rfl) ?_)| fail)
       generalize ((wr.alloc (.cells ((aK 1 at_ nn mm (.slice tp zr.length tc) bt).setIfInBounds 2 (.int .i64 ka)) 38)).alloc (.cells ((aK 1 at_ nn mm (.slice tp zr.length tc) bt).setIfInBounds 2 (.int .i64 kb)) 38))=w4 at*
       clear cc2 ff2 cc3 ff3 qq0 q0 rj2
       have HST1:=HST.out w4 X ka (HX.out.1.below HO4.out.2.2) HX.out.2.2.1 (HB.out.trans (HO4.out.2.2.mono fw.out)) (by have:=Ub.out;omega) (fun _=>Ub.out)
       rw [HX.out.2.1]at HST1
       refine HST1.mono ?_
       clear HST1
       rintro e w5 ⟨X',E,N,md,rv,rz,s,t1,t2,t3,t4,t5,c0,c1,c2,c3,rfl,⟨hO,Ro⟩,xN,JL,JM,gX',hB5,hF5,hG5,hnp5⟩
       obtain⟨s1,l1,rfl,-,-⟩:=hO.form
       have JN: ∀k∈X.fp,k<wr.heap.size:=fun k q=>(HX.out.1.lt q).2
       have CO: ∀k∈Y.fp,k<wr.heap.size:=fun k q=>(HY.out.1.lt q).2
       have hl4:=HO4.out.2.2.size
       have hl5:=hF5.size
       obtain⟨f1,f2,f3,f4⟩:=xL (HX.out.1.below HO4.out.2.2) (HY.out.1.below HO4.out.2.2) sY.out xN hF5 hG5 (aN E N md (.slice s1 rz.length l1) s t1 t2 t3 t4 t5 c0 c1 c2 c3)
       have HO6:=aa ((f4 _ (aC HO4.out.2.1) (fun q=>by have:=JN _ q;omega)).trans HO4.out.2.1)
       have r6:=aF w5 (.cells (aN E N md (.slice s1 rz.length l1) s t1 t2 t3 t4 t5 c0 c1 c2 c3) 46)
       have s6:(w5.alloc (.cells (aN E N md (.slice s1 rz.length l1) s t1 t2 t3 t4 t5 c0 c1 c2 c3) 46)).heap.size=w5.heap.size+1:=Array.size_push _
       have b6:=aq w5 (.cells (aN E N md (.slice s1 rz.length l1) s t1 t2 t3 t4 t5 c0 c1 c2 c3) 46)
       have HF1:=aa (And.intro f1 (And.intro f2 f3))
       have HR6:=aa (And.intro r6 s6)
       have rE:=aa (show w5.heap.size∉X'.fp/\w5.heap.size∉Y.fp from⟨fun q=>by have:=(xN.lt q).2;omega,fun q=>by have:=CO _ q;omega⟩)
       have HO1:=aa (And.intro (hO.below b6 (Nat.le_refl _)) (show∀k,(Value.slice s1 rz.length l1).ownBlock=some k->k<(w5.alloc (.cells (aN E N md (.slice s1 rz.length l1) s t1 t2 t3 t4 t5 c0 c1 c2 c3) 46)).heap.size/\k≠w5.heap.size/\k∉Y.fp from fun k e=>by
         obtain⟨e1,cur,e2⟩:=aH hO k e
         have e3:=aC e2
         exact⟨by rw [s6];omega,by omega,fun q=>by have:=CO _ q;omega⟩))
       have HV1:=aa (And.intro JL (And.intro JM (And.intro (gX'.trans HX.out.2.1) (hnp5 0 (by decide)))))
       have HB6:=aa (show Below base w (w5.alloc (.cells (aN E N md (.slice s1 rz.length l1) s t1 t2 t3 t4 t5 c0 c1 c2 c3) 46))from((HB.out.trans (HO4.out.2.2.mono fw.out)).trans hB5).trans (b6.mono (by have:=fw.out;omega)))
       have rp:=aa (And.intro hl4 hl5)
       clear hO Ro xN JL JM gX' hB5 hF5 hG5 hnp5 JN CO hl4 hl5 f1 f2 f3 f4 r6 s6 b6
       go_wp2_with (first| (refine wpList_store_row rfl 46 (.tmp 18) (.tmp 72) rfl w5.heap.size (aN E N md (.slice s1 rz.length l1) s t1 t2 t3 t4 t5 c0 c1 c2 c3) rfl rfl 46 _ (aF w5 (.cells #[.int .i64 0, .int .i64 0, .bool false, .slice none 0 0, .int .i64 0, .int .i64 0, .int .i64 0, .int .i64 0, .int .i64 0, .int .i64 0, .int .i64 0, .int .i64 0, .int .i64 0, .int .i64 0, .int .i64 0, .int .i64 0, .int .i64 0, .int .i64 0] 46)) (iF _ _ _ _ _ _ _ _ _ _ _ _ _ _) rfl (by simp [aN,Value.oneCell']) ?_;rw [aP])| (refine wpList_load_row rfl 38 (.tmp 17) rfl (wr.heap.size+1) rfl 38 (aK 1 at_ kb mm (.slice tp zr.length tc) bt) _ _ HO6.out Tryz.underlying38 rfl (by rw [fP];rfl) ?_)| fail)
       generalize w5.alloc (.cells (aN E N md (.slice s1 rz.length l1) s t1 t2 t3 t4 t5 c0 c1 c2 c3) 46)=w6 at*
       have HST2:=HST.out w6 Y kb HF1.out.1 HY.out.2.2 HB6.out (by have:=Jl.out;omega) (fun _=>Jl.out)
       rw [HY.out.2.1]at HST2
       refine HST2.mono ?_
       clear HST2
       rintro e w7 ⟨Y',E',N',md',WL,MZ,s',u1,u2,u3,u4,u5,d0,d1,d2,d3,rfl,⟨hO2,Rp⟩,zP,EL,hEq2,CH,hB7,hF7,hG7,hnp7⟩
       rw [LM P at_ kb ka]at EL hEq2
       obtain⟨e1,e2,e3,e4,e5,e6,e7,e8⟩:=EJ HV1.out.2.1 hEq2
       subst e1
       subst e2
       subst e3
       subst e4
       subst e5
       subst e6
       subst e7
       subst e8
       obtain⟨s2,l2,rfl,-,-⟩:=hO2.form
       have hl7:=hF7.size
       have r8:(w7.alloc (.cells (aN E N md (.slice s2 rz.length l2) s u1 u2 u3 u4 u5 d0 c1 c2 c3) 46)).heap[w5.heap.size]? =some (.cells (aN E N md (.slice s1 rz.length l1) s t1 t2 t3 t4 t5 c0 c1 c2 c3) 46 (0,0)):=((aq w7 _).block _ (by have:=HR6.out.2;omega)).trans ((hF7.block _ (by have:=HR6.out.2;omega) rE.out.2).trans HR6.out.1)
       have cp:=CJ r8 u1 u2 u3 u4 u5 d0
       have SS:=aa (uO (w9:=(((w7.alloc (.cells (aN E N md (.slice s2 rz.length l2) s u1 u2 u3 u4 u5 d0 c1 c2 c3) 46)).setRow w5.heap.size (aN E N md (.slice s1 rz.length l1) s u1 u2 u3 u4 u5 c0 c1 c2 c3)).setCell ⟨w5.heap.size,14,none⟩ (.int .i64 d0))) HF1.out.2.1 HF1.out.1 HF1.out.2.2 zP hF7 hG7 (by have:=HR6.out.2;omega) rE.out.1 rE.out.2 HR6.out.1 rfl cp.2.2.1 cp.2.2.2 HO1.out.1 HO1.out.2 hO2)
       have HV2:=aa (And.intro EL (CH.trans HY.out.2.1))
       have HB9:=aa (show Below base w (((w7.alloc (.cells (aN E N md (.slice s2 rz.length l2) s u1 u2 u3 u4 u5 d0 c1 c2 c3) 46)).setRow w5.heap.size (aN E N md (.slice s1 rz.length l1) s u1 u2 u3 u4 u5 c0 c1 c2 c3)).setCell ⟨w5.heap.size,14,none⟩ (.int .i64 d0))from by
         have z1:base<=w6.heap.size:=by have:=HR6.out.2;have:=rp.out;have:=fw.out;omega
         have z:=(HB6.out.trans hB7).trans ((aq w7 (.cells (aN E N md (.slice s2 rz.length l2) s u1 u2 u3 u4 u5 d0 c1 c2 c3) 46)).mono (Nat.le_trans z1 hl7))
         have z2:base<=w5.heap.size:=by have:=rp.out;have:=fw.out;omega
         exact(below_setRow z z2 _).setCell z2 _)
       have HR8:=aa r8
       have JO:=aa (show(w7.alloc (.cells (aN E N md (.slice s2 rz.length l2) s u1 u2 u3 u4 u5 d0 c1 c2 c3) 46)).setCells w5.heap.size 9 (#[.int .i64 u1, .int .i64 u2, .int .i64 u3, .int .i64 u4, .int .i64 u5]:Array Value).toList=(w7.alloc (.cells (aN E N md (.slice s2 rz.length l2) s u1 u2 u3 u4 u5 d0 c1 c2 c3) 46)).setRow w5.heap.size (aN E N md (.slice s1 rz.length l1) s u1 u2 u3 u4 u5 c0 c1 c2 c3)from CI r8 u1 u2 u3 u4 u5 d0)
       have kB:=aa (zQ (aF w7 (.cells (aN E N md (.slice s2 rz.length l2) s u1 u2 u3 u4 u5 d0 c1 c2 c3) 46)))
       have n57:w7.heap.size≠w5.heap.size:=by have:=HR6.out.2;omega
       have k1:((w7.alloc (.cells (aN E N md (.slice s2 rz.length l2) s u1 u2 u3 u4 u5 d0 c1 c2 c3) 46)).setRow w5.heap.size (aN E N md (.slice s1 rz.length l1) s u1 u2 u3 u4 u5 c0 c1 c2 c3)).cell? ⟨w7.heap.size,14,none⟩=some (.int .i64 d0):=by
         rw [World.cell?_of_block (setRow_other _ _ _ _ n57),cell_of_row _ _ _ _ _ _ (aF w7 _)];rfl
       have k2:((w7.alloc (.cells (aN E N md (.slice s2 rz.length l2) s u1 u2 u3 u4 u5 d0 c1 c2 c3) 46)).setRow w5.heap.size (aN E N md (.slice s1 rz.length l1) s u1 u2 u3 u4 u5 c0 c1 c2 c3)).cell? ⟨w5.heap.size,14,none⟩=some (.int .i64 c0):=by rw [cell_of_row _ _ _ _ _ _ cp.2.1];rfl
       have k3:((w7.alloc (.cells (aN E N md (.slice s2 rz.length l2) s u1 u2 u3 u4 u5 d0 c1 c2 c3) 46)).setRow w5.heap.size (aN E N md (.slice s1 rz.length l1) s u1 u2 u3 u4 u5 c0 c1 c2 c3)).frozen? ⟨w5.heap.size,14,none⟩=false:=frozen_of_row _ _ _ _ _ cp.2.1
       have HC9:=aa (And.intro cp.1 (SS.out.2.2.2.2.2.2))
       clear hO2 Rp zP EL hEq2 CH hB7 hF7 hG7 hnp7 hl7 r8 cp n57
       go_wp2_with (first
         | (refine wpList_store_row rfl 46 (.tmp 19) (.tmp 75) rfl w7.heap.size (aN E N md (.slice s2 rz.length l2) s u1 u2 u3 u4 u5 d0 c1 c2 c3) rfl rfl 46 _ (aF w7 (.cells #[.int .i64 0, .int .i64 0, .bool false, .slice none 0 0, .int .i64 0, .int .i64 0, .int .i64 0, .int .i64 0, .int .i64 0, .int .i64 0, .int .i64 0, .int .i64 0, .int .i64 0, .int .i64 0, .int .i64 0, .int .i64 0, .int .i64 0, .int .i64 0] 46)) (iF _ _ _ _ _ _ _ _ _ _ _ _ _ _) rfl (by simp [aN,Value.oneCell']) ?_;rw [aP])
         | refine wpList_load_mid rfl 42 (.tmp 76) rfl w7.heap.size 9 rfl _ _ kB.out Tryz.underlying42 rfl (by rw [lU];rfl) ?_
         | (refine wpList_store_mid rfl 42 (.tmp 78) (.tmp 77) rfl w5.heap.size 9 #[.int .i64 u1, .int .i64 u2, .int .i64 u3, .int .i64 u4, .int .i64 u5] rfl rfl (CL HR8.out (by simp [aN])) (by rw [lU];rfl) (by simp [Value.oneCell']) ?_;rw [JO.out])
         | fail)
       clear k1 k2 k3 HR8 JO kB
       generalize (((w7.alloc (.cells (aN E N md (.slice s2 rz.length l2) s u1 u2 u3 u4 u5 d0 c1 c2 c3) 46)).setRow w5.heap.size (aN E N md (.slice s1 rz.length l1) s u1 u2 u3 u4 u5 c0 c1 c2 c3)).setCell ⟨w5.heap.size,14,none⟩ (.int .i64 d0))=w9 at*
       have EB:1000+200*j+200=1000+200*(j+1):=by omega
       have HLR2:=aa (show LR w w9 base (w.heap.size+1) (w.heap.size+1+1) n (j+1)from⟨X',Y',(dV P 1 at_ ka mm zr).1,(by rw [<-EB];exact SS.out.1),(by rw [<-EB];exact SS.out.2.1),HV1.out.2.2.1,HV2.out.2,HV1.out.1,HV2.out.1,SS.out.2.2.1,HV1.out.2.2.2.trans HX.out.2.2.2,HB9.out⟩)
       clear EB
       have Rq:=aa (fun(w':World) (q:Below w9.heap.size w9 w')=>zO w' E N md rz s1 s2 l1 l2 s u1 u2 u3 u4 u5 d0 c1 c2 c3 ((rh SS.out.2.2.2.2.1).below q (Nat.le_refl _)) ((rh SS.out.2.2.2.2.2.1).below q (Nat.le_refl _)))
       obtain⟨kn,hkn⟩: ∃kn,kn=(dV P 1 at_ ka mm zr).1.n:=⟨_,rfl⟩
       obtain⟨st1,ct1,ht1⟩:=ug SS.out.1 HV1.out.2.2.1 (HV1.out.1.2.1.trans hkn.symm)
       obtain⟨st2,ct2,ht2⟩:=ug SS.out.2.1 HV2.out.2 (HV2.out.1.2.1.trans hkn.symm)
       have mj:Hid (∀w',Below w9.heap.size w9 w'->w'.cell? ⟨w.heap.size+1,1,none⟩=some (.slice st1 kn ct1)/\w'.cell? ⟨w.heap.size+1+1,1,none⟩=some (.slice st2 kn ct2)/\w'.rangeAt w5.heap.size 0 (aN E N md (.slice s1 rz.length l1) s u1 u2 u3 u4 u5 d0 c1 c2 c3).toList/\w'.rangeAt w7.heap.size 0 (aN E N md (.slice s2 rz.length l2) s u1 u2 u3 u4 u5 d0 c1 c2 c3).toList):=aa (fun w' q=>⟨ht1 w' q,ht2 w' q,pq ((q.block _ (aC HC9.out.1)).trans HC9.out.1),pq ((q.block _ (aC HC9.out.2)).trans HC9.out.2)⟩)
       have HBW9:=aa (show base<=w9.heap.size from by
         have:=HB9.out.size
         rw [lV.out];exact this)
       clear hkn ht1 ht2 SS HV1 HV2 HC9 HF1 HR6 rE HO1 rp HO6 HO4
       refine wp_region_noPanic ?_
       refine wp_region_held_drew (S:=fun w'=>Below w9.heap.size w9 w') (by kernel_rfl) (Below.refl _ _).drew (fun hHeld=>?_)
       refine aV 0 (.agg ((aN E N md (.slice s1 rz.length l1) s u1 u2 u3 u4 u5 d0 c1 c2 c3).toList).toArray) rfl (yieldsIf_load_mid (by rfl) 46 _ rfl w5.heap.size (0) rfl ((aN E N md (.slice s1 rz.length l1) s u1 u2 u3 u4 u5 d0 c1 c2 c3).toList) _ (fun w hS=>(mj.out _ hS).2.2.1) Tryz.underlying46 rfl (by rw [ku];rfl)) hHeld ?_
       try go_frame
       refine aV 1 (.agg ((aN E N md (.slice s2 rz.length l2) s u1 u2 u3 u4 u5 d0 c1 c2 c3).toList).toArray) rfl (yieldsIf_load_mid (by rfl) 46 _ rfl w7.heap.size (0) rfl ((aN E N md (.slice s2 rz.length l2) s u1 u2 u3 u4 u5 d0 c1 c2 c3).toList) _ (fun w hS=>(mj.out _ hS).2.2.2) Tryz.underlying46 rfl (by rw [ku];rfl)) hHeld ?_
       try go_frame
       refine bR 2 rfl (fun K hK=>?_)
       go_simp
       go_at_call 8
       refine(Rq.out _ hHeld).mono ?_
       rintro e wA ⟨rfl,hb4⟩
       go_wp2_with fail
       refine hK.out _ _ (hHeld.trans (hb4.mono hHeld.size)) ?_
       clear hK K hHeld
       intro hHeld
       clear hb4
       try go_frame
       refine ai 3 (.bool false) rfl hHeld ?_
       try go_frame
       refine ai 4 (.bool false) rfl hHeld ?_
       try go_frame
       refine ai 5 (.pointer (some ⟨w.heap.size+1,0,none⟩)) rfl hHeld ?_
       try go_frame
       refine ai 10 (.pointer (some ⟨w.heap.size+1+1,0,none⟩)) rfl hHeld ?_
       try go_frame
       refine ai 6 (.pointer (some ⟨w.heap.size+1,0,none⟩)) rfl hHeld ?_
       try go_frame
       refine ai 11 (.pointer (some ⟨w.heap.size+1+1,0,none⟩)) rfl hHeld ?_
       try go_frame
       refine ai 7 (.pointer (some ⟨w.heap.size+1,1,none⟩)) rfl hHeld ?_
       try go_frame
       refine ai 12 (.pointer (some ⟨w.heap.size+1+1,1,none⟩)) rfl hHeld ?_
       try go_frame
       refine aV 8 (.slice st1 kn ct1) rfl (yA (by intro w hS;have hc:=(mj.out _ hS).1;go_simp)) hHeld ?_
       try go_frame
       refine aV 13 (.slice st2 kn ct2) rfl (yA (by intro w hS;have hc:=(mj.out _ hS).2.1;go_simp)) hHeld ?_
       try go_frame
       refine ai 9 (.int .i64 kn) rfl hHeld ?_
       try go_frame
       refine ai 14 (.int .i64 kn) rfl hHeld ?_
       try go_frame
       refine ai 15 (.bool false) rfl hHeld ?_
       try go_frame
       refine ai 16 (.bool false) rfl hHeld ?_
       try go_frame
       refine dY ?_
       have HLI2:=aa (HLR2.out.below hHeld HBW9.out)
       clear hHeld
       go_wp2
       go_roundw
       case rel=>exact⟨j+1,by omega,by go_num,HLI2.out⟩
       case measure=>simp [intOf];omega
     · have HO4:Hid (((wr.alloc (.cells (aK kd at_ nn mm (.slice tp zr.length tc) bt) 38)).alloc (.cells (aK kd at_ nn mm (.slice tp zr.length tc) bt) 38)).heap[wr.heap.size]? =some (.cells (aK kd at_ nn mm (.slice tp zr.length tc) bt) 38 (0,0))/\((wr.alloc (.cells (aK kd at_ nn mm (.slice tp zr.length tc) bt) 38)).alloc (.cells (aK kd at_ nn mm (.slice tp zr.length tc) bt) 38)).heap[wr.heap.size+1]? =some (.cells (aK kd at_ nn mm (.slice tp zr.length tc) bt) 38 (0,0))/\Below wr.heap.size wr ((wr.alloc (.cells (aK kd at_ nn mm (.slice tp zr.length tc) bt) 38)).alloc (.cells (aK kd at_ nn mm (.slice tp zr.length tc) bt) 38))):=aa ⟨ro2,rp2,b2⟩
       clear ro2 rp2 b2
       go_wp2_with (first| (refine wpList_load_mid rfl 38 _ rfl bk (f0+j*6) rfl (aK kd at_ nn mm (.slice tp zr.length tc) bt).toList _ rj2 Tryz.underlying38 rfl EK.out ?_)| (refine wpList_store_row rfl 38 (.tmp 16) (.tmp 56) rfl wr.heap.size (aK kd at_ nn mm (.slice tp zr.length tc) bt).toList.toArray rfl rfl 38 _ (aF wr (.cells #[.int .i64 0, .int .i64 0, .int .i64 0, .int .i64 0, .slice none 0 0, .int .u32 0] 38)) (by rw [Array.toArray_toList];exact EK.out) rfl (by rw [Array.toArray_toList];exact JK.out) ?_;rw [aP,Array.toArray_toList])| (refine wpList_load_row rfl 38 (.tmp 16) rfl wr.heap.size rfl 38 (aK kd at_ nn mm (.slice tp zr.length tc) bt) _ _ (aF wr (.cells (aK kd at_ nn mm (.slice tp zr.length tc) bt) 38)) Tryz.underlying38 rfl (by rw [fP];rfl) ?_)| (refine wpList_store_row rfl 38 (.tmp 17) (.tmp 60) rfl (wr.heap.size+1) (aK kd at_ nn mm (.slice tp zr.length tc) bt) rfl rfl 38 _ (Ca.hnew2 wr (.cells (aK kd at_ nn mm (.slice tp zr.length tc) bt) 38) (.cells #[.int .i64 0, .int .i64 0, .int .i64 0, .int .i64 0, .slice none 0 0, .int .u32 0] 38)) (by rw [fP];rfl) rfl JK.out ?_;rw [Ca.mE])| (refine wpList_load_row rfl 38 (.tmp 16) rfl wr.heap.size rfl 38 (aK kd at_ nn mm (.slice tp zr.length tc) bt) _ _ HO4.out.1 Tryz.underlying38 rfl (by rw [fP];rfl) ?_))
       go_wp2_with (first| (refine wpList_load_row rfl 38 (.tmp 16) rfl wr.heap.size rfl 38 (aK kd at_ nn mm (.slice tp zr.length tc) bt) _ _ HO4.out.1 Tryz.underlying38 rfl (by rw [fP];rfl) ?_)| fail)
       generalize ((wr.alloc (.cells (aK kd at_ nn mm (.slice tp zr.length tc) bt) 38)).alloc (.cells (aK kd at_ nn mm (.slice tp zr.length tc) bt) 38))=w4 at*
       clear qq0 q0 rj2
       have HST1:=HST.out w4 X nn (HX.out.1.below HO4.out.2.2) HX.out.2.2.1 (HB.out.trans (HO4.out.2.2.mono fw.out)) HN6.out (fun e=>absurd e h1)
       rw [HX.out.2.1]at HST1
       refine HST1.mono ?_
       clear HST1
       rintro e w5 ⟨X',E,N,md,rv,rz,s,t1,t2,t3,t4,t5,c0,c1,c2,c3,rfl,⟨hO,Ro⟩,xN,JL,JM,gX',hB5,hF5,hG5,hnp5⟩
       obtain⟨s1,l1,rfl,-,-⟩:=hO.form
       have JN: ∀k∈X.fp,k<wr.heap.size:=fun k q=>(HX.out.1.lt q).2
       have CO: ∀k∈Y.fp,k<wr.heap.size:=fun k q=>(HY.out.1.lt q).2
       have hl4:=HO4.out.2.2.size
       have hl5:=hF5.size
       obtain⟨f1,f2,f3,f4⟩:=xL (HX.out.1.below HO4.out.2.2) (HY.out.1.below HO4.out.2.2) sY.out xN hF5 hG5 (aN E N md (.slice s1 rz.length l1) s t1 t2 t3 t4 t5 c0 c1 c2 c3)
       have HO6:=aa ((f4 _ (aC HO4.out.2.1) (fun q=>by have:=JN _ q;omega)).trans HO4.out.2.1)
       have r6:=aF w5 (.cells (aN E N md (.slice s1 rz.length l1) s t1 t2 t3 t4 t5 c0 c1 c2 c3) 46)
       have s6:(w5.alloc (.cells (aN E N md (.slice s1 rz.length l1) s t1 t2 t3 t4 t5 c0 c1 c2 c3) 46)).heap.size=w5.heap.size+1:=Array.size_push _
       have b6:=aq w5 (.cells (aN E N md (.slice s1 rz.length l1) s t1 t2 t3 t4 t5 c0 c1 c2 c3) 46)
       have HF1:=aa (And.intro f1 (And.intro f2 f3))
       have HR6:=aa (And.intro r6 s6)
       have rE:=aa (show w5.heap.size∉X'.fp/\w5.heap.size∉Y.fp from⟨fun q=>by have:=(xN.lt q).2;omega,fun q=>by have:=CO _ q;omega⟩)
       have HO1:=aa (And.intro (hO.below b6 (Nat.le_refl _)) (show∀k,(Value.slice s1 rz.length l1).ownBlock=some k->k<(w5.alloc (.cells (aN E N md (.slice s1 rz.length l1) s t1 t2 t3 t4 t5 c0 c1 c2 c3) 46)).heap.size/\k≠w5.heap.size/\k∉Y.fp from fun k e=>by
         obtain⟨e1,cur,e2⟩:=aH hO k e
         have e3:=aC e2
         exact⟨by rw [s6];omega,by omega,fun q=>by have:=CO _ q;omega⟩))
       have HV1:=aa (And.intro JL (And.intro JM (And.intro (gX'.trans HX.out.2.1) (hnp5 0 (by decide)))))
       have HB6:=aa (show Below base w (w5.alloc (.cells (aN E N md (.slice s1 rz.length l1) s t1 t2 t3 t4 t5 c0 c1 c2 c3) 46))from((HB.out.trans (HO4.out.2.2.mono fw.out)).trans hB5).trans (b6.mono (by have:=fw.out;omega)))
       have rp:=aa (And.intro hl4 hl5)
       clear hO Ro xN JL JM gX' hB5 hF5 hG5 hnp5 JN CO hl4 hl5 f1 f2 f3 f4 r6 s6 b6
       go_wp2_with (first| (refine wpList_store_row rfl 46 (.tmp 18) (.tmp 72) rfl w5.heap.size (aN E N md (.slice s1 rz.length l1) s t1 t2 t3 t4 t5 c0 c1 c2 c3) rfl rfl 46 _ (aF w5 (.cells #[.int .i64 0, .int .i64 0, .bool false, .slice none 0 0, .int .i64 0, .int .i64 0, .int .i64 0, .int .i64 0, .int .i64 0, .int .i64 0, .int .i64 0, .int .i64 0, .int .i64 0, .int .i64 0, .int .i64 0, .int .i64 0, .int .i64 0, .int .i64 0] 46)) (iF _ _ _ _ _ _ _ _ _ _ _ _ _ _) rfl (by simp [aN,Value.oneCell']) ?_;rw [aP])| (refine wpList_load_row rfl 38 (.tmp 17) rfl (wr.heap.size+1) rfl 38 (aK kd at_ nn mm (.slice tp zr.length tc) bt) _ _ HO6.out Tryz.underlying38 rfl (by rw [fP];rfl) ?_)| fail)
       generalize w5.alloc (.cells (aN E N md (.slice s1 rz.length l1) s t1 t2 t3 t4 t5 c0 c1 c2 c3) 46)=w6 at*
       have HST2:=HST.out w6 Y nn HF1.out.1 HY.out.2.2 HB6.out HN6.out (fun e=>absurd e h1)
       rw [HY.out.2.1]at HST2
       refine HST2.mono ?_
       clear HST2
       rintro e w7 ⟨Y',E',N',md',WL,MZ,s',u1,u2,u3,u4,u5,d0,d1,d2,d3,rfl,⟨hO2,Rp⟩,zP,EL,hEq2,CH,hB7,hF7,hG7,hnp7⟩
       obtain⟨e1,e2,e3,e4,e5,e6,e7,e8⟩:=EJ HV1.out.2.1 hEq2
       subst e1
       subst e2
       subst e3
       subst e4
       subst e5
       subst e6
       subst e7
       subst e8
       obtain⟨s2,l2,rfl,-,-⟩:=hO2.form
       have hl7:=hF7.size
       have r8:(w7.alloc (.cells (aN E N md (.slice s2 rz.length l2) s u1 u2 u3 u4 u5 d0 c1 c2 c3) 46)).heap[w5.heap.size]? =some (.cells (aN E N md (.slice s1 rz.length l1) s t1 t2 t3 t4 t5 c0 c1 c2 c3) 46 (0,0)):=((aq w7 _).block _ (by have:=HR6.out.2;omega)).trans ((hF7.block _ (by have:=HR6.out.2;omega) rE.out.2).trans HR6.out.1)
       have cp:=CJ r8 u1 u2 u3 u4 u5 d0
       have SS:=aa (uO (w9:=(((w7.alloc (.cells (aN E N md (.slice s2 rz.length l2) s u1 u2 u3 u4 u5 d0 c1 c2 c3) 46)).setRow w5.heap.size (aN E N md (.slice s1 rz.length l1) s u1 u2 u3 u4 u5 c0 c1 c2 c3)).setCell ⟨w5.heap.size,14,none⟩ (.int .i64 d0))) HF1.out.2.1 HF1.out.1 HF1.out.2.2 zP hF7 hG7 (by have:=HR6.out.2;omega) rE.out.1 rE.out.2 HR6.out.1 rfl cp.2.2.1 cp.2.2.2 HO1.out.1 HO1.out.2 hO2)
       have HV2:=aa (And.intro EL (CH.trans HY.out.2.1))
       have HB9:=aa (show Below base w (((w7.alloc (.cells (aN E N md (.slice s2 rz.length l2) s u1 u2 u3 u4 u5 d0 c1 c2 c3) 46)).setRow w5.heap.size (aN E N md (.slice s1 rz.length l1) s u1 u2 u3 u4 u5 c0 c1 c2 c3)).setCell ⟨w5.heap.size,14,none⟩ (.int .i64 d0))from by
         have z1:base<=w6.heap.size:=by have:=HR6.out.2;have:=rp.out;have:=fw.out;omega
         have z:=(HB6.out.trans hB7).trans ((aq w7 (.cells (aN E N md (.slice s2 rz.length l2) s u1 u2 u3 u4 u5 d0 c1 c2 c3) 46)).mono (Nat.le_trans z1 hl7))
         have z2:base<=w5.heap.size:=by have:=rp.out;have:=fw.out;omega
         exact(below_setRow z z2 _).setCell z2 _)
       have HR8:=aa r8
       have JO:=aa (show(w7.alloc (.cells (aN E N md (.slice s2 rz.length l2) s u1 u2 u3 u4 u5 d0 c1 c2 c3) 46)).setCells w5.heap.size 9 (#[.int .i64 u1, .int .i64 u2, .int .i64 u3, .int .i64 u4, .int .i64 u5]:Array Value).toList=(w7.alloc (.cells (aN E N md (.slice s2 rz.length l2) s u1 u2 u3 u4 u5 d0 c1 c2 c3) 46)).setRow w5.heap.size (aN E N md (.slice s1 rz.length l1) s u1 u2 u3 u4 u5 c0 c1 c2 c3)from CI r8 u1 u2 u3 u4 u5 d0)
       have kB:=aa (zQ (aF w7 (.cells (aN E N md (.slice s2 rz.length l2) s u1 u2 u3 u4 u5 d0 c1 c2 c3) 46)))
       have n57:w7.heap.size≠w5.heap.size:=by have:=HR6.out.2;omega
       have k1:((w7.alloc (.cells (aN E N md (.slice s2 rz.length l2) s u1 u2 u3 u4 u5 d0 c1 c2 c3) 46)).setRow w5.heap.size (aN E N md (.slice s1 rz.length l1) s u1 u2 u3 u4 u5 c0 c1 c2 c3)).cell? ⟨w7.heap.size,14,none⟩=some (.int .i64 d0):=by
         rw [World.cell?_of_block (setRow_other _ _ _ _ n57),cell_of_row _ _ _ _ _ _ (aF w7 _)];rfl
       have k2:((w7.alloc (.cells (aN E N md (.slice s2 rz.length l2) s u1 u2 u3 u4 u5 d0 c1 c2 c3) 46)).setRow w5.heap.size (aN E N md (.slice s1 rz.length l1) s u1 u2 u3 u4 u5 c0 c1 c2 c3)).cell? ⟨w5.heap.size,14,none⟩=some (.int .i64 c0):=by rw [cell_of_row _ _ _ _ _ _ cp.2.1];rfl
       have k3:((w7.alloc (.cells (aN E N md (.slice s2 rz.length l2) s u1 u2 u3 u4 u5 d0 c1 c2 c3) 46)).setRow w5.heap.size (aN E N md (.slice s1 rz.length l1) s u1 u2 u3 u4 u5 c0 c1 c2 c3)).frozen? ⟨w5.heap.size,14,none⟩=false:=frozen_of_row _ _ _ _ _ cp.2.1
       have HC9:=aa (And.intro cp.1 (SS.out.2.2.2.2.2.2))
       clear hO2 Rp zP EL hEq2 CH hB7 hF7 hG7 hnp7 hl7 r8 cp n57
       go_wp2_with (first
         | (refine wpList_store_row rfl 46 (.tmp 19) (.tmp 75) rfl w7.heap.size (aN E N md (.slice s2 rz.length l2) s u1 u2 u3 u4 u5 d0 c1 c2 c3) rfl rfl 46 _ (aF w7 (.cells #[.int .i64 0, .int .i64 0, .bool false, .slice none 0 0, .int .i64 0, .int .i64 0, .int .i64 0, .int .i64 0, .int .i64 0, .int .i64 0, .int .i64 0, .int .i64 0, .int .i64 0, .int .i64 0, .int .i64 0, .int .i64 0, .int .i64 0, .int .i64 0] 46)) (iF _ _ _ _ _ _ _ _ _ _ _ _ _ _) rfl (by simp [aN,Value.oneCell']) ?_;rw [aP])
         | refine wpList_load_mid rfl 42 (.tmp 76) rfl w7.heap.size 9 rfl _ _ kB.out Tryz.underlying42 rfl (by rw [lU];rfl) ?_
         | (refine wpList_store_mid rfl 42 (.tmp 78) (.tmp 77) rfl w5.heap.size 9 #[.int .i64 u1, .int .i64 u2, .int .i64 u3, .int .i64 u4, .int .i64 u5] rfl rfl (CL HR8.out (by simp [aN])) (by rw [lU];rfl) (by simp [Value.oneCell']) ?_;rw [JO.out])
         | fail)
       clear k1 k2 k3 HR8 JO kB
       generalize (((w7.alloc (.cells (aN E N md (.slice s2 rz.length l2) s u1 u2 u3 u4 u5 d0 c1 c2 c3) 46)).setRow w5.heap.size (aN E N md (.slice s1 rz.length l1) s u1 u2 u3 u4 u5 c0 c1 c2 c3)).setCell ⟨w5.heap.size,14,none⟩ (.int .i64 d0))=w9 at*
       have EB:1000+200*j+200=1000+200*(j+1):=by omega
       have HLR2:=aa (show LR w w9 base (w.heap.size+1) (w.heap.size+1+1) n (j+1)from⟨X',Y',(dV P kd at_ nn mm zr).1,(by rw [<-EB];exact SS.out.1),(by rw [<-EB];exact SS.out.2.1),HV1.out.2.2.1,HV2.out.2,HV1.out.1,HV2.out.1,SS.out.2.2.1,HV1.out.2.2.2.trans HX.out.2.2.2,HB9.out⟩)
       clear EB
       have Rq:=aa (fun(w':World) (q:Below w9.heap.size w9 w')=>zO w' E N md rz s1 s2 l1 l2 s u1 u2 u3 u4 u5 d0 c1 c2 c3 ((rh SS.out.2.2.2.2.1).below q (Nat.le_refl _)) ((rh SS.out.2.2.2.2.2.1).below q (Nat.le_refl _)))
       obtain⟨kn,hkn⟩: ∃kn,kn=(dV P kd at_ nn mm zr).1.n:=⟨_,rfl⟩
       obtain⟨st1,ct1,ht1⟩:=ug SS.out.1 HV1.out.2.2.1 (HV1.out.1.2.1.trans hkn.symm)
       obtain⟨st2,ct2,ht2⟩:=ug SS.out.2.1 HV2.out.2 (HV2.out.1.2.1.trans hkn.symm)
       have mj:Hid (∀w',Below w9.heap.size w9 w'->w'.cell? ⟨w.heap.size+1,1,none⟩=some (.slice st1 kn ct1)/\w'.cell? ⟨w.heap.size+1+1,1,none⟩=some (.slice st2 kn ct2)/\w'.rangeAt w5.heap.size 0 (aN E N md (.slice s1 rz.length l1) s u1 u2 u3 u4 u5 d0 c1 c2 c3).toList/\w'.rangeAt w7.heap.size 0 (aN E N md (.slice s2 rz.length l2) s u1 u2 u3 u4 u5 d0 c1 c2 c3).toList):=aa (fun w' q=>⟨ht1 w' q,ht2 w' q,pq ((q.block _ (aC HC9.out.1)).trans HC9.out.1),pq ((q.block _ (aC HC9.out.2)).trans HC9.out.2)⟩)
       have HBW9:=aa (show base<=w9.heap.size from by
         have:=HB9.out.size
         rw [lV.out];exact this)
       clear hkn ht1 ht2 SS HV1 HV2 HC9 HF1 HR6 rE HO1 rp HO6 HO4
       refine wp_region_noPanic ?_
       refine wp_region_held_drew (S:=fun w'=>Below w9.heap.size w9 w') (by kernel_rfl) (Below.refl _ _).drew (fun hHeld=>?_)
       refine aV 0 (.agg ((aN E N md (.slice s1 rz.length l1) s u1 u2 u3 u4 u5 d0 c1 c2 c3).toList).toArray) rfl (yieldsIf_load_mid (by rfl) 46 _ rfl w5.heap.size (0) rfl ((aN E N md (.slice s1 rz.length l1) s u1 u2 u3 u4 u5 d0 c1 c2 c3).toList) _ (fun w hS=>(mj.out _ hS).2.2.1) Tryz.underlying46 rfl (by rw [ku];rfl)) hHeld ?_
       try go_frame
       refine aV 1 (.agg ((aN E N md (.slice s2 rz.length l2) s u1 u2 u3 u4 u5 d0 c1 c2 c3).toList).toArray) rfl (yieldsIf_load_mid (by rfl) 46 _ rfl w7.heap.size (0) rfl ((aN E N md (.slice s2 rz.length l2) s u1 u2 u3 u4 u5 d0 c1 c2 c3).toList) _ (fun w hS=>(mj.out _ hS).2.2.2) Tryz.underlying46 rfl (by rw [ku];rfl)) hHeld ?_
       try go_frame
       refine bR 2 rfl (fun K hK=>?_)
       go_simp
       go_at_call 8
       refine(Rq.out _ hHeld).mono ?_
       rintro e wA ⟨rfl,hb4⟩
       go_wp2_with fail
       refine hK.out _ _ (hHeld.trans (hb4.mono hHeld.size)) ?_
       clear hK K hHeld
       intro hHeld
       clear hb4
       try go_frame
       refine ai 3 (.bool false) rfl hHeld ?_
       try go_frame
       refine ai 4 (.bool false) rfl hHeld ?_
       try go_frame
       refine ai 5 (.pointer (some ⟨w.heap.size+1,0,none⟩)) rfl hHeld ?_
       try go_frame
       refine ai 10 (.pointer (some ⟨w.heap.size+1+1,0,none⟩)) rfl hHeld ?_
       try go_frame
       refine ai 6 (.pointer (some ⟨w.heap.size+1,0,none⟩)) rfl hHeld ?_
       try go_frame
       refine ai 11 (.pointer (some ⟨w.heap.size+1+1,0,none⟩)) rfl hHeld ?_
       try go_frame
       refine ai 7 (.pointer (some ⟨w.heap.size+1,1,none⟩)) rfl hHeld ?_
       try go_frame
       refine ai 12 (.pointer (some ⟨w.heap.size+1+1,1,none⟩)) rfl hHeld ?_
       try go_frame
       refine aV 8 (.slice st1 kn ct1) rfl (yA (by intro w hS;have hc:=(mj.out _ hS).1;go_simp)) hHeld ?_
       try go_frame
       refine aV 13 (.slice st2 kn ct2) rfl (yA (by intro w hS;have hc:=(mj.out _ hS).2.1;go_simp)) hHeld ?_
       try go_frame
       refine ai 9 (.int .i64 kn) rfl hHeld ?_
       try go_frame
       refine ai 14 (.int .i64 kn) rfl hHeld ?_
       try go_frame
       refine ai 15 (.bool false) rfl hHeld ?_
       try go_frame
       refine ai 16 (.bool false) rfl hHeld ?_
       try go_frame
       refine dY ?_
       have HLI2:=aa (HLR2.out.below hHeld HBW9.out)
       clear hHeld
       go_wp2
       go_roundw
       case rel=>exact⟨j+1,by omega,by go_num,HLI2.out⟩
       case measure=>simp [intOf];omega
   · have i1:(m:Int)<=(j:Int):=by omega
     have Rn:=aa Rl
     clear Rl
     go_wp2_with fail
     obtain⟨q1,k1,a0,a1,q2,k2,b0,b1,nI,nJ,I0,I1,Ud,hc1,hc2,Ue,hs0,hs1,hk1,hk2,hB⟩:=Rn.out.ends
     have HC1:=aa hc1
     have HC2:=aa hc2
     have nv:=aa Ue
     have HS0:=aa hs0
     have HS1:=aa hs1
     have HB:=aa hB
     have WM:=aa Ud
     have i2:(2:Int)<=(k1:Int):=by omega
     have i3:(2:Int)<=(k2:Int):=by omega
     clear hc1 hc2 Ue hs0 hs1 hk1 hk2 hB Ud
     refine wp_region_noPanic ?_
     refine wp_region_held_drew (S:=fun w'=>Below wr.heap.size wr w') (by kernel_rfl) (Below.refl _ _).drew (fun hHeld=>?_)
     refine ai 0 (.pointer (some ⟨w.heap.size+1,0,none⟩)) rfl hHeld ?_
     try go_frame
     refine ai 7 (.pointer (some ⟨w.heap.size+1+1,0,none⟩)) rfl hHeld ?_
     try go_frame
     refine ai 1 (.pointer (some ⟨w.heap.size+1,0,none⟩)) rfl hHeld ?_
     try go_frame
     refine ai 8 (.pointer (some ⟨w.heap.size+1+1,0,none⟩)) rfl hHeld ?_
     try go_frame
     refine ai 2 (.pointer (some ⟨w.heap.size+1,0,none⟩)) rfl hHeld ?_
     try go_frame
     refine ai 9 (.pointer (some ⟨w.heap.size+1+1,0,none⟩)) rfl hHeld ?_
     try go_frame
     refine aV 3 (.slice (some ⟨q1,0,none⟩) 2 k1) rfl (yA (by intro w hS;have hc:=(HC1.out _ hS).1;go_simp)) hHeld ?_
     try go_frame
     refine aV 10 (.slice (some ⟨q2,0,none⟩) 2 k2) rfl (yA (by intro w hS;have hc:=(HC2.out _ hS).1;go_simp)) hHeld ?_
     try go_frame
     refine ai 4 (.pointer (some ⟨q1,0,none⟩)) rfl hHeld ?_
     try go_frame
     refine ai 11 (.pointer (some ⟨q2,0,none⟩)) rfl hHeld ?_
     try go_frame
     refine aV 5 (.pointer (some ⟨a0,0,none⟩)) rfl (yA (by intro w hS;have hc:=(HC1.out _ hS).2.1;go_simp)) hHeld ?_
     try go_frame
     refine aV 12 (.pointer (some ⟨b0,0,none⟩)) rfl (yA (by intro w hS;have hc:=(HC2.out _ hS).2.1;go_simp)) hHeld ?_
     try go_frame
     refine bR 6 rfl (fun K hK=>?_)
     go_simp
     go_at_call 10
     refine((nv.out _ hHeld).1).mono ?_
     rintro e wA ⟨sA,cA,rfl,hs,hb4⟩
     have gF:=aa hs
     go_wp2_with fail
     refine hK.out _ _ (hHeld.trans (hb4.mono hHeld.size)) ?_
     clear hK K hHeld
     intro hHeld
     clear hs
     try go_frame
     refine bR 13 rfl (fun K hK=>?_)
     go_simp
     go_at_call 10
     refine((nv.out _ hHeld).2.2.1).mono ?_
     rintro e wB ⟨sB,cB,rfl,hs,hb4⟩
     have WN:=aa hs
     have JP:=aa (gF.out.below hb4 (Nat.le_refl _))
     go_wp2_with fail
     refine hK.out _ _ (hHeld.trans (hb4.mono hHeld.size)) ?_
     clear hK K hHeld
     intro hHeld
     clear hs
     try go_frame
     refine bR 14 rfl (fun K hK=>?_)
     go_simp
     go_at_call 9
     refine(HS0.out _ _ _ _ _ JP.out WN.out).mono ?_
     rintro e wC ⟨rfl,hb4⟩
     go_wp2_with fail
     refine hK.out _ _ (hHeld.trans (hb4.mono hHeld.size)) ?_
     clear hK K hHeld
     intro hHeld
     clear JP
     try go_frame
     refine ai 15 (.bool true) rfl hHeld ?_
     try go_frame
     refine ai 16 (.pointer (some ⟨w.heap.size+1,0,none⟩)) rfl hHeld ?_
     try go_frame
     refine ai 23 (.pointer (some ⟨w.heap.size+1+1,0,none⟩)) rfl hHeld ?_
     try go_frame
     refine ai 17 (.pointer (some ⟨w.heap.size+1,0,none⟩)) rfl hHeld ?_
     try go_frame
     refine ai 24 (.pointer (some ⟨w.heap.size+1+1,0,none⟩)) rfl hHeld ?_
     try go_frame
     refine ai 18 (.pointer (some ⟨w.heap.size+1,0,none⟩)) rfl hHeld ?_
     try go_frame
     refine ai 25 (.pointer (some ⟨w.heap.size+1+1,0,none⟩)) rfl hHeld ?_
     try go_frame
     refine aV 19 (.slice (some ⟨q1,0,none⟩) 2 k1) rfl (yA (by intro w hS;have hc:=(HC1.out _ hS).1;go_simp)) hHeld ?_
     try go_frame
     refine aV 26 (.slice (some ⟨q2,0,none⟩) 2 k2) rfl (yA (by intro w hS;have hc:=(HC2.out _ hS).1;go_simp)) hHeld ?_
     try go_frame
     refine ai 20 (.pointer (some ⟨q1,1,none⟩)) rfl hHeld ?_
     try go_frame
     refine ai 27 (.pointer (some ⟨q2,1,none⟩)) rfl hHeld ?_
     try go_frame
     refine aV 21 (.pointer (some ⟨a1,0,none⟩)) rfl (yA (by intro w hS;have hc:=(HC1.out _ hS).2.2;go_simp)) hHeld ?_
     try go_frame
     refine aV 28 (.pointer (some ⟨b1,0,none⟩)) rfl (yA (by intro w hS;have hc:=(HC2.out _ hS).2.2;go_simp)) hHeld ?_
     try go_frame
     refine bR 22 rfl (fun K hK=>?_)
     go_simp
     go_at_call 10
     refine((nv.out _ hHeld).2.1).mono ?_
     rintro e wD ⟨sD,cD,rfl,hs,hb4⟩
     have WQ:=aa hs
     go_wp2_with fail
     refine hK.out _ _ (hHeld.trans (hb4.mono hHeld.size)) ?_
     clear hK K hHeld
     intro hHeld
     clear hs
     try go_frame
     refine bR 29 rfl (fun K hK=>?_)
     go_simp
     go_at_call 10
     refine((nv.out _ hHeld).2.2.2).mono ?_
     rintro e wE ⟨sE,cE,rfl,hs,hb4⟩
     have BM:=aa hs
     have JP:=aa (WQ.out.below hb4 (Nat.le_refl _))
     go_wp2_with fail
     refine hK.out _ _ (hHeld.trans (hb4.mono hHeld.size)) ?_
     clear hK K hHeld
     intro hHeld
     clear hs
     try go_frame
     refine bR 30 rfl (fun K hK=>?_)
     go_simp
     go_at_call 9
     refine(HS1.out _ _ _ _ _ JP.out BM.out).mono ?_
     rintro e wF ⟨rfl,hb4⟩
     go_wp2_with fail
     refine hK.out _ _ (hHeld.trans (hb4.mono hHeld.size)) ?_
     clear hK K hHeld
     intro hHeld
     clear JP
     try go_frame
     refine ai 31 (.bool true) rfl hHeld ?_
     try go_frame
     refine ai 32 (.bool true) rfl hHeld ?_
     try go_frame
     refine ai 33 (.pointer (some ⟨w.heap.size+1,0,none⟩)) rfl hHeld ?_
     try go_frame
     refine ai 41 (.int .i64 n) rfl hHeld ?_
     try go_frame
     refine ai 34 (.pointer (some ⟨w.heap.size+1,0,none⟩)) rfl hHeld ?_
     try go_frame
     refine aV 42 (.int .i64 (256*(n:Int))) rfl (yA (by intro w hS;go_simp;exact IntWalk.i64_in _ (by omega))) hHeld ?_
     try go_frame
     refine ai 35 (.pointer (some ⟨w.heap.size+1,0,none⟩)) rfl hHeld ?_
     try go_frame
     refine aV 36 (.slice (some ⟨q1,0,none⟩) 2 k1) rfl (yA (by intro w hS;have hc:=(HC1.out _ hS).1;go_simp)) hHeld ?_
     try go_frame
     refine ai 37 (.pointer (some ⟨q1,0,none⟩)) rfl hHeld ?_
     try go_frame
     refine aV 38 (.pointer (some ⟨a0,0,none⟩)) rfl (yA (by intro w hS;have hc:=(HC1.out _ hS).2.1;go_simp)) hHeld ?_
     try go_frame
     refine bR 39 rfl (fun K hK=>?_)
     go_simp
     go_at_call 10
     refine((nv.out _ hHeld).1).mono ?_
     rintro e wG ⟨sG,cG,rfl,hs,hb4⟩
     have Ye:=aa hs
     go_wp2_with fail
     refine hK.out _ _ (hHeld.trans (hb4.mono hHeld.size)) ?_
     clear hK K hHeld
     intro hHeld
     clear hs
     try go_frame
     refine ai 40 (.int .i64 nI) rfl hHeld ?_
     try go_frame
     refine ai 43 (.bool ((nI:Int)==256*(n:Int))) rfl hHeld ?_
     try go_frame
     refine ai 44 (.bool ((nI:Int)==256*(n:Int))) rfl hHeld ?_
     try go_frame
     refine ai 45 (.bool ((nI:Int)==256*(n:Int))) rfl hHeld ?_
     try go_frame
     refine dY ?_
     have HH:=aa (HB.out.trans (hHeld.mono (Nat.le_trans (Nat.le_of_eq lV.out) HB.out.size)))
     clear hHeld
     go_wp2
     go_ret
     refine⟨?_,lV.out▸HH.out⟩
     have e:=WM.out
     simp
     omega
end Go.Proofs.YtpdakmhnnkaafaaGreat

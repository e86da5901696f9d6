import Derived.Maps.RangeWalk
import Derived.Test.YtpdakmhnnkaafaaGreatR05
namespace Go.Proofs.YtpdakmhnnkaafaaGreat
set_option maxRecDepth 100000
set_option maxHeartbeats 40000000
set_option linter.unusedVariables false
set_option linter.unusedSimpArgs false
open Go.RowKit
attribute [local go_sem ↓] Go.wp_at_zero Go.wp_at_succ
theorem Gr.of_le{a b:World}{F F':List Nat}(h:Gr b F F')(hs:a.heap.size<=b.heap.size):Gr a F F':=fun k hk=>(h k hk).imp id (fun q=>by omega)
theorem oA{a b:World}{r:Option Nat}(h:a.grownBy b r){k:Nat}(hk:k<a.heap.size)(hr:r≠some k):b.heap[k]? =a.heap[k]? :=h.block k hk (fun e=>hr e.symm)
theorem AO(w:World)(c:Obj){k:Nat}(hk:k<w.heap.size):(w.alloc c).heap[k]? =w.heap[k]? :=by
 show(w.heap.push _)[k]? =_
 rw [Array.getElem?_push,if_neg (by omega)]
theorem jT{w w1:World}{g o:Nat}{cs:List Value}(h:w.rangeAt g o cs)(hk:w1.heap[g]? =w.heap[g]?):w1.rangeAt g o cs:=fun j v hv=>by
 have:=h j v hv
 rw [World.cell?]at this⊢
 rw [hk];exact this
theorem AP{w w':World}{r:Option Nat}(h:w.drew.grownBy w' r):w.grownBy w' r:=⟨h.os,h.tape,h.output,h.size,h.block⟩
theorem rk{w w':World}{c:Obj}{r:Option Nat}(h:(w.drew.alloc c).grownBy w' r):(w.alloc c).grownBy w' r:=⟨h.os,h.tape,h.output,h.size,h.block⟩
theorem Kf(q:Int)(data:List Int)(hd:data.length=256):splice (zW q) 1 (ints .u8 data)= .int .i64 q::ints .u8 data:=by
 unfold splice zW
 have e:1+(ints .u8 data).length=257:=by rw [aI,hd]
 rw [e,List.drop_of_length_le (by rw [List.length_cons,aI,List.length_replicate];exact Nat.le_refl _),List.append_nil];rfl
theorem Kg(w:World)(base:Nat)(P:DP)(D:DS)(h:DK w base P D)(hok:cC D)(n:Nat)(hn:D.af.length=256*n)(h4:n<=4096)(cX:base<=w.heap.size)(cM:D.power=true)(q:Nat)(hq:q<n)(data:List Int)(hd:data.length=256)(sp:Option Addr)(cap:Nat)(hS:Src w sp cap data)
   (mA:D.ops.length<400000000000) (hwr:D.writes<4000000000000000000):
   Calls Tryz.prog 73 #[.pointer (some ⟨P.p,0,none⟩), .int .i64 q, .slice sp 256 cap] w fun e w'=>e= .returned (.int .i64 D.eW)/\ ∃P':DP,P'.p=P.p/\DK w' base P' ({D.dK ⟨q,data⟩with writes:=D.writes+1}:DS).bn/\Fr P.fp w w'/\Gr w P.fp P'.fp:=by
 obtain⟨o,ho⟩: ∃o:OW,o=⟨q,data⟩:=⟨_,rfl⟩
 rw [<-ho]
 have Mh:bF o= .int .i64 q::ints .u8 data:=by rw [ho];rfl
 have iJ:=aa (show o.page=q by rw [ho])
 clear ho
 have XM:=aa Mh
 have vW:(bF o).length=257:=by rw [Mh,List.length_cons,aI,hd]
 have oB:(Tryz.prog.info? 103).map (·.size)=some (bF o).length:=by rw [tT,vW]
 have HP:=aa (GR w base P D h n hn h4 q)
 have he:decide (0<=(q:Int)/\(q:Int)<n)=true:=decide_eq_true ⟨by omega,by omega⟩
 have HE:=aa he
 have mK:=aa hok.armed
 have hq4:q<4096:=by omega
 have c7:=h.c7
 rw [cM]at c7
 obtain⟨Zq,AQ⟩: ∃Z,Z=zW q:=⟨_,rfl⟩
 obtain⟨Z0,hZ0⟩: ∃Z,Z=zW 0:=⟨_,rfl⟩
 have Sk:=aa AQ
 have HZ0:=aa hZ0
 have g1:=aa (aF w (.cells Z0.toArray 103))
 have g2:=aa (aF w (.cells Zq.toArray 103))
 have K1:=aa (show(Tryz.prog.info? 103).map (·.size)=some Zq.toArray.size by rw [tT,AQ,List.size_toArray,pU])
 have K2:=aa (show Z0.toArray.size=Zq.toArray.size by rw [hZ0,AQ,List.size_toArray,List.size_toArray,pU,pU])
 have oo:=aa (all_oneCell_toArray (show∀v∈Zq,v.oneCell'=true by rw [AQ];exact Pc q))
 have hB1:Below w.heap.size w (w.alloc (.cells Zq.toArray 103)):=(Below.refl _ w).alloc (Nat.le_refl _) _
 have HB1:=aa hB1
 have hS1:=hS.below hB1 (Nat.le_refl _)
 have KC:=aa (show(ints .u8 data).length=Nat.min 256 256 by rw [aI,hd];decide)
 have KP:=aa (show∃ad,sp=some ad/\ ∀j v,(ints .u8 data)[j]? =some v->(w.alloc (.cells Zq.toArray 103)).cell? (ad.add j)=some v by
   obtain⟨_,_,b,o',_,hsp,_⟩:=id hS1
   have hs:=hsp (by rw [hd];decide)
   subst hs
   exact⟨_,rfl,qw hS1⟩)
 have KF:=aa (show 1+(ints .u8 data).length<=Zq.length by rw [aI,hd,AQ,pU];decide)
 have KO:=aa (dR .u8 data)
 have KS:=aa (show splice Zq 1 (ints .u8 data)=bF o by rw [AQ,Kf q data hd,Mh])
 have rp:=aa hd
 clear Mh he hn hS hS1 hB1 AQ hZ0 hd
 have HL2:=aa (show D.ops.length<=400000000000 by omega)
 have HL1:=aa (show D.ops.length+1<=400000000001 by omega)
 have wb:=hok.writes
 have iw:D.writes+1<=9223372036854775807:=by omega
 have iw0:0<=D.writes:=wb.1
 clear wb hok hwr
 have H:=aa h
 clear h
 obtain⟨p,g,m,gc,ov,rs,M⟩:=P
 simp only at*
 have sH:p<w.heap.size:=hlt H.out.cell
 go_enter Tryz.func73,Tryz.ntmps73
 go_wp2_with (first
   | (go_at_call 45;refine HP.out.mono ?_;rintro e w0 ⟨rfl,rfl⟩;rw [HE.out])
   | refine zZ rfl (.tmp 20) rfl q rfl Zq Sk.out ?_
   | refine jX rfl rfl Z0 HZ0.out ?_
   | (refine wpList_store_row rfl 103 _ _ rfl w.heap.size _ rfl rfl 103 _ g1.out K1.out K2.out oo.out ?_;rw [aP])
   | (refine wpList_copy_splice rfl (.tmp 23) (.tmp 24) 31 31 rfl 5 Tryz.underlying31 Tryz.size5 (some ⟨w.heap.size,1,none⟩) sp 256 256 256 cap rfl rfl w.heap.size 1 Zq 103 g2.out (ints .u8 data) KC.out (fun _=>⟨rfl,KP.out⟩) KF.out KO.out w.heap.size w HB1.out (Nat.le_refl _) ?_;intro w2 hr2 hB2;rw [KS.out]at hr2))
 clear HP HE g1 g2 K1 K2 oo HB1 KC KP KF KO KS c7 Sk HZ0
 have hDK2:=H.out.below hB2
 have Sl:p≠w.heap.size:=by omega
 have Vh:m≠w.heap.size:=by have:=(H.out.lt m ((DP.mem _ _).2 (Or.inr (Or.inr (Or.inl rfl))))).2;omega
 have Sn:ov.ownBlock≠some w.heap.size:=fun e=>by have:=(H.out.lt _ ((DP.mem _ _).2 (Or.inr (Or.inr (Or.inr e))))).2;omega
 have HS2:=aa hB2.size
 have hN2:w.heap.size<w2.heap.size:=hlt hr2.out
 have hp2:p<w2.heap.size:=by omega
 have hb2:base<=w2.heap.size:=by omega
 obtain⟨jD,eX,sI⟩:=ei hDK2.opn
 simp only at sI
 subst sI
 have c6:=hDK2.c6
 have c5:=hDK2.c5
 have hm2:=hDK2.mp
 simp only at c6 c5 hm2
 have Vi:p≠m:=hDK2.pm
 have Vj:(Value.slice jD D.ops.length eX).ownBlock≠some p:=hDK2.po
 have h3:=aa (fun(w3:World) (hg3:w2.grownBy w3 (some m))=>(show w3.heap[p]? =w2.heap[p]? /\w3.heap[w.heap.size]? =w2.heap[w.heap.size]? /\w2.heap.size<=w3.heap.size/\ ∀i,(Value.slice jD D.ops.length eX).ownBlock=some i->w3.heap[i]? =w2.heap[i]? from
   ⟨oA hg3 hp2 (fun e=>Vi (Option.some.inj e).symm),oA hg3 hN2 (fun e=>Vh (Option.some.inj e)),hg3.size,fun i hi=>oA hg3 (hDK2.lt i ((DP.mem _ _).2 (Or.inr (Or.inr (Or.inr hi))))).2 (fun e=>hDK2.mo (by rw [hi];exact e.symm))⟩))
 have hS9:=aa (fun(w3:World) (hg3:w2.grownBy w3 (some m))=>(show w3.cell? ⟨p,6,none⟩=some (.map (some m))/\w3.cell? ⟨p,5,none⟩=some (.slice jD D.ops.length eX)from
   ⟨by rw [World.cell?,(h3.out w3 hg3).1];exact c6,by rw [World.cell?,(h3.out w3 hg3).1];exact c5⟩))
 have HO2:=aa hDK2.opn
 have PF:=aa (fun(w3 w4:World) (c:Obj) (v:Value) (a1:w3.ownsMap Tryz.prog 3 (plainElem Tryz.prog 3) m (D.ops.length+1) (M.put (.int .i64 (q:Nat)) (.lit (.int .i64 (D.ops.length:Nat))))) (a2:w2.grownBy w3 (some m)) (a3:w4.ownsRow base 103 257 v (D.ops.length+1) (D.ops.flatMap bF++bF o)) (a4:(w3.alloc c).grownBy w4 (Value.slice jD D.ops.length eX).ownBlock) (a5:v.ownBlock=(Value.slice jD D.ops.length eX).ownBlock\/v.ownBlock=some (w3.heap.size+1))=>
   hDK2.push o (by rw [iJ.out];exact hq4) (by rw [iJ.out];exact a1) a2 c a3 a4 a5)
 have ux:=aa (fun(w9:World) (hf:Fr (DP.mk p g m gc (Value.slice jD D.ops.length eX) rs M).fp w2 w9)=>(Fr.ba (F:=(DP.mk p g m gc (Value.slice jD D.ops.length eX) rs M).fp) hB2).trans hf (Gr.refl _ _))
 have Um:=aa Sn
 have Un:=aa Sl
 clear hDK2 Sn Sl H Vj
 have hN:=aa hr2.out
 clear hr2 hB2
 generalize yU:w.heap.size=N at*
 have mL:=aa yU
 clear yU
 refine wp_region_noPanic ?_
 refine wp_region_held_drew (S:=fun w'=>w'.cell? ⟨p,6,none⟩=some (.map (some m))/\w'.cell? ⟨p,5,none⟩=some (.slice jD D.ops.length eX)) (by kernel_rfl) ⟨c6,c5⟩ (fun hHeld=>?_)
 refine ai 0 (.pointer (some ⟨p,0,none⟩)) rfl hHeld ?_
 try go_frame
 refine ai 4 (.int .i64 q) rfl hHeld ?_
 try go_frame
 refine ai 5 (.pointer (some ⟨p,0,none⟩)) rfl hHeld ?_
 try go_frame
 refine ai 1 (.pointer (some ⟨p,0,none⟩)) rfl hHeld ?_
 try go_frame
 refine ai 6 (.pointer (some ⟨p,0,none⟩)) rfl hHeld ?_
 try go_frame
 refine ai 2 (.pointer (some ⟨p,6,none⟩)) rfl hHeld ?_
 try go_frame
 refine ai 7 (.pointer (some ⟨p,5,none⟩)) rfl hHeld ?_
 try go_frame
 refine aV 3 (.map (some m)) rfl (yA (by intro w hS;have hc:=hS.1;go_simp)) hHeld ?_
 try go_frame
 refine aV 8 (.slice jD D.ops.length eX) rfl (yA (by intro w hS;have hc:=hS.2;go_simp)) hHeld ?_
 try go_frame
 refine ai 9 (.int .i64 D.ops.length) rfl hHeld ?_
 try go_frame
 refine bR 10 rfl (fun K hK=>?_)
 refine Fk rfl (.tmp 29) (.tmp 30) (.tmp 35) rfl m D.ops.length M rfl hm2 (by unfold maxLen;omega) q rfl hq4 D.ops.length rfl HL2.out ?_
 intro w3 hm3 hg3
 replace hg3:=AP hg3
 refine hK.out _ _ (hS9.out w3 hg3) ?_
 clear hK K hHeld
 intro hHeld
 try go_frame
 refine dY ?_
 clear hHeld
 obtain⟨e1,e2,e3,e4⟩:=h3.out w3 hg3
 have hp3:p<w3.heap.size:=by omega
 have Sq:base<=w3.drew.heap.size:=by show base<=w3.heap.size;omega
 have z3:w3.cell? ⟨p,5,none⟩=some (.slice jD D.ops.length eX):=(hS9.out w3 hg3).2
 have hO3:w3.drew.ownsRow base 103 257 (.slice jD D.ops.length eX) D.ops.length (D.ops.flatMap bF):=cZ HO2.out e4
 have rN3:w3.drew.rangeAt N 0 (bF o):=yK (show w3.heap[N]? =_ from e2.trans hN.out)
 have hN3:N<w3.heap.size:=by omega
 have RA:=aa (fun(c:Obj)=>(show(w3.drew.alloc c).rangeAt N 0 (bF o)/\True from⟨jT rN3 (AO w3.drew c hN3),trivial⟩))
 have RB:=aa (fun(c:Obj) (w4:World) (a:(w3.drew.alloc c).grownBy w4 (Value.slice jD D.ops.length eX).ownBlock)=>(show w4.rangeAt N 0 (bF o)/\True from⟨jT (RA.out c).1 (oA a (by simp;show N<w3.heap.size+1;omega) (fun e=>Um.out e)),trivial⟩))
 have RC:=aa (fun(c:Obj) (w4:World) (v:Value) (a:(w3.drew.alloc c).grownBy w4 (Value.slice jD D.ops.length eX).ownBlock)=>(show(w4.setCell ⟨p,5,none⟩ v).rangeAt N 0 (bF o)/\True from⟨jT (RB.out c w4 a).1 (heap_setCell_other w4 _ N v (fun e=>Un.out e.symm)),trivial⟩))
 clear h3 hS9 c5 c6 e1 e2 e3 e4 HO2 hm2 hN
 go_wp2
 refine wp_region_noPanic ?_
 refine wp_region_held_drew (S:=fun w'=>w'.rangeAt N 0 (bF o)/\True) (by kernel_rfl) ⟨rN3,trivial⟩ (fun hHeld=>?_)
 refine ai 0 (.pointer (some ⟨p,0,none⟩)) rfl hHeld ?_
 try go_frame
 refine ai 1 (.pointer (some ⟨p,0,none⟩)) rfl hHeld ?_
 try go_frame
 refine aV 5 (.agg (bF o).toArray) rfl (yieldsIf_load_mid (by rfl) 103 _ rfl N (0) rfl (bF o) _ (fun w hS=>hS.1) Tryz.underlying103 rfl oB) hHeld ?_
 try go_frame
 refine ai 2 (.pointer (some ⟨p,0,none⟩)) rfl hHeld ?_
 try go_frame
 refine ai 3 (.pointer (some ⟨p,5,none⟩)) rfl hHeld ?_
 try go_frame
 refine wpAnyH_ready (rs:= [4,6]) (by kernel_rfl) (by simp) ?_
 refine(tQ rfl (fun K hK=>?_) (tQ rfl (fun K hK=>?_) AllReadyH.nil))
 · skip
   go_simp
   refine hK.out _ _ (hHeld) ?_
   clear hK K hHeld
   intro hHeld
   try go_frame
   refine bR 6 rfl (fun K hK=>?_)
   refine uw (by rfl) (.tmp 41) rfl (bF o) vW rfl ?_
   refine hK.out _ _ (RA.out _) ?_
   clear hK K hHeld
   intro hHeld
   try go_frame
   refine bR 7 rfl (fun K hK=>?_)
   refine vV (w:=w3.drew) rfl (.tmp 40) (.tmp 42) rfl base (.slice jD D.ops.length eX) D.ops.length _ (bF o) rfl hO3 rfl vW (qD o) HL1.out Sq _ _ ?_
   intro v4 w4 hO4 qF hd4
   have hg4:=rk qF
   obtain⟨dz,Kh,rfl⟩:=ei hO4
   obtain⟨z5,y5,Vk,Ee,Vl,GX,hDK5,hFr5,hGr5⟩:=PF.out w3 w4 _ _ hm3 hg3 hO4 hg4 hd4
   refine hK.out _ _ (RB.out _ w4 qF) ?_
   clear hK K hHeld
   intro hHeld
   try go_frame
   refine ai 8 (.pointer (some ⟨p,0,none⟩)) rfl hHeld ?_
   try go_frame
   refine ai 9 (.pointer (some ⟨p,5,none⟩)) rfl hHeld ?_
   try go_frame
   refine bR 10 rfl (fun K hK=>?_)
   go_simp
   refine hK.out _ _ (RC.out _ w4 _ qF) ?_
   clear hK K hHeld
   intro hHeld
   try go_frame
   refine dY ?_
   clear hHeld
   generalize w4.setCell ⟨p,5,none⟩ (.slice dz (D.ops.length+1) Kh)=W5 at*
   have Vm:=GX 3
   have Vn:=GX 1
   have hw5:=DK.put (D':=({D.dK o with writes:=D.writes+1}:DS)) hDK5 1 (.int .i64 (D.writes+1)) rfl rfl rfl
   have HA:=aa (vU _ base _ _ hw5 mK.out)
   have HF5:=aa (hFr5.setCell (p:=p) ((DP.mem _ _).2 (Or.inl rfl)) 1 (.int .i64 (D.writes+1)))
   have HG5:=aa hGr5
   clear hw5 hDK5 hFr5 hGr5 PF RA RB RC hO4 hg4 hd4 hm3 hg3 hO3 z5 y5 qF
   go_wp2_with (go_at_call 83;refine HA.out.mono ?_;rintro e w9 ⟨rfl,hDK9,hFr9⟩)
   go_ret
   exact⟨rfl,_,rfl,hDK9,ux.out _ (HF5.out.trans hFr9 HG5.out),HG5.out.of_le (by rw [mL.out];exact HS2.out)⟩
 · skip
   refine uw (by rfl) (.tmp 41) rfl (bF o) vW rfl ?_
   refine hK.out _ _ (RA.out _) ?_
   clear hK K hHeld
   intro hHeld
   try go_frame
   refine bR 4 rfl (fun K hK=>?_)
   go_simp
   refine hK.out _ _ (hHeld) ?_
   clear hK K hHeld
   intro hHeld
   try go_frame
   refine bR 7 rfl (fun K hK=>?_)
   refine vV (w:=w3.drew) rfl (.tmp 40) (.tmp 42) rfl base (.slice jD D.ops.length eX) D.ops.length _ (bF o) rfl hO3 rfl vW (qD o) HL1.out Sq _ _ ?_
   intro v4 w4 hO4 qF hd4
   have hg4:=rk qF
   obtain⟨dz,Kh,rfl⟩:=ei hO4
   obtain⟨z5,y5,Vk,Ee,Vl,GX,hDK5,hFr5,hGr5⟩:=PF.out w3 w4 _ _ hm3 hg3 hO4 hg4 hd4
   refine hK.out _ _ (RB.out _ w4 qF) ?_
   clear hK K hHeld
   intro hHeld
   try go_frame
   refine ai 8 (.pointer (some ⟨p,0,none⟩)) rfl hHeld ?_
   try go_frame
   refine ai 9 (.pointer (some ⟨p,5,none⟩)) rfl hHeld ?_
   try go_frame
   refine bR 10 rfl (fun K hK=>?_)
   go_simp
   refine hK.out _ _ (RC.out _ w4 _ qF) ?_
   clear hK K hHeld
   intro hHeld
   try go_frame
   refine dY ?_
   clear hHeld
   generalize w4.setCell ⟨p,5,none⟩ (.slice dz (D.ops.length+1) Kh)=W5 at*
   have Vm:=GX 3
   have Vn:=GX 1
   have hw5:=DK.put (D':=({D.dK o with writes:=D.writes+1}:DS)) hDK5 1 (.int .i64 (D.writes+1)) rfl rfl rfl
   have HA:=aa (vU _ base _ _ hw5 mK.out)
   have HF5:=aa (hFr5.setCell (p:=p) ((DP.mem _ _).2 (Or.inl rfl)) 1 (.int .i64 (D.writes+1)))
   have HG5:=aa hGr5
   clear hw5 hDK5 hFr5 hGr5 PF RA RB RC hO4 hg4 hd4 hm3 hg3 hO3 z5 y5 qF
   go_wp2_with (go_at_call 83;refine HA.out.mono ?_;rintro e w9 ⟨rfl,hDK9,hFr9⟩)
   go_ret
   exact⟨rfl,_,rfl,hDK9,ux.out _ (HF5.out.trans hFr9 HG5.out),HG5.out.of_le (by rw [mL.out];exact HS2.out)⟩
def DS.wr(D:DS)(o:OW):DS:=({D.dK o with writes:=D.writes+1}:DS).bn
theorem ez(D:DS):D.bn.af=D.af/\D.bn.ops=D.ops/\D.bn.ag=D.ag/\D.bn.reads=D.reads/\D.bn.writes=D.writes/\D.bn.aA=D.aA:=by
 unfold DS.bn
 split
 · exact⟨rfl,rfl,rfl,rfl,rfl,rfl⟩
 · split<;>exact⟨rfl,rfl,rfl,rfl,rfl,rfl⟩
theorem ij{D:DS}(h:cC D):cC D.bn:=by
 obtain⟨e1,e2,e3,e4,e5,e6⟩:=ez D
 refine⟨by rw [e1,e2];exact h.n,by rw [e1];exact h.bts,by rw [e2];exact h.ops,by rw [e4];exact h.reads,by rw [e5];exact h.writes,by rw [e6];exact h.aA,by rw [e3];exact h.ag,?_⟩
 have:=h.armed
 unfold DS.bn
 split
 · exact this
 · split
   · simp
   · simp only;omega
def DS.np(D:DS):Nat:=D.af.length/256
theorem cC.np{D:DS}(h:cC D):3<=D.np/\D.np<=4096/\D.af.length=256*D.np/\ ∀o∈D.ops,gB D.np o:=by
 obtain⟨n,a,b,c,d⟩:=h.n
 have e:D.np=n:=by unfold DS.np;rw [c];omega
 rw [e];exact⟨a,b,c,d⟩
theorem vZ{D:DS}{o:OW}(h:cC D)(ho:gB D.np o)(mA:D.ops.length<400000000000)(hwr:D.writes<4000000000000000000):cC (D.wr o):=by
 refine ij ⟨⟨D.np,h.np.1,h.np.2.1,h.np.2.2.1,fun x hx=>?_⟩,h.bts,?_,h.reads,?_,h.aA,h.ag,h.armed⟩
 · rcases List.mem_append.1 hx with q| q
   · exact h.np.2.2.2 x q
   · rw [List.mem_singleton]at q;rw [q];exact ho
 · simp [DS.dK];omega
 · have:=h.writes;show 0<=D.writes+1/\D.writes+1<=_;omega
theorem yV(w:World)(base:Nat)(F:List Nat)(p:Nat)(D:DS)(h:DA w base F p D)(cX:base<=w.heap.size)(cM:D.power=true)(q:Nat)(hq:q<D.np)(data:List Int)(hd:data.length=256)(rq:jC data)(sp:Option Addr)(cap:Nat)(hS:Src w sp cap data)
   (mA:D.ops.length<400000000000) (hwr:D.writes<4000000000000000000):
   Calls Tryz.prog 73 #[.pointer (some ⟨p,0,none⟩), .int .i64 q, .slice sp 256 cap] w fun e w'=>e= .returned (.int .i64 D.eW)/\Nx base F p w (D.wr ⟨q,data⟩) w':=by
 obtain⟨P,rfl,rfl,hk,hok⟩:=h
 refine(Kg w base P D hk hok D.np hok.np.2.2.1 hok.np.2.1 cX cM q hq data hd sp cap hS mA hwr).mono ?_
 rintro e w' ⟨rfl,P',e1,e2,e3,e4⟩
 exact⟨rfl,P'.fp,⟨P',e1,rfl,e2,vZ hok ⟨hq,hd,rq⟩ mA hwr⟩,e3,e4⟩
theorem zero3(w:World):(zeroValue 3).run Tryz.prog w= .ok (.int .i64 0) w:=by kernel_rfl
theorem wh{w:World}{ops:Array Oper}{rest:List Oper}{o:Oper}{a:Act}{Q:Exit->Act->World->Prop}(hg:o.guard=none)(m x:Operand)(hop:o.op=Op.lookup 77 m x true)
   (b n:Nat) (M:DataW Unit) (L:List OW) (hm:a.eval m= .map (some b)) (hown:w.ownsMap Tryz.prog 3 (plainElem Tryz.prog 3) b n M) (hN:py M L) (q:Nat) (hx:a.eval x= .int .i64 q) (hq:q<4096) (i:Nat) (hi:gC L q=some i)
   (h:wpList Tryz.prog ops Q rest (a.put o.dst (.tuple #[.int .i64 i, .bool true])) w):wpList Tryz.prog ops Q (o::rest) a w:=by
 refine wpList_lookup_own_ok_int w hg m x 77 hop 3 3 .i64 keyed3 Tryz.underlying77 Tryz.underlying3 (zero3 _) b n M hm hown _ _ hx (Maps.keyOf_int_mk Tryz.underlying3 (Mf q hq)) ?_
 intro c hc _
 obtain⟨y1,y2⟩:=hN.yes q i hi
 rw [y1]
 rw [y2]at hc
 simp only [DataW.lit.injEq,Lit.int.injEq,true_and]at hc
 rw [<-hc];exact h
theorem xY{w:World}{ops:Array Oper}{rest:List Oper}{o:Oper}{a:Act}{Q:Exit->Act->World->Prop}(hg:o.guard=none)(m x:Operand)(hop:o.op=Op.lookup 77 m x true)
   (b n:Nat) (M:DataW Unit) (L:List OW) (hm:a.eval m= .map (some b)) (hown:w.ownsMap Tryz.prog 3 (plainElem Tryz.prog 3) b n M) (hN:py M L) (q:Nat) (hx:a.eval x= .int .i64 q) (hq:q<4096) (hi:gC L q=none)
   (h:wpList Tryz.prog ops Q rest (a.put o.dst (.tuple #[.int .i64 0, .bool false])) w):wpList Tryz.prog ops Q (o::rest) a w:=by
 refine wpList_lookup_own_ok_int w hg m x 77 hop 3 3 .i64 keyed3 Tryz.underlying77 Tryz.underlying3 (zero3 _) b n M hm hown _ _ hx (Maps.keyOf_int_mk Tryz.underlying3 (Mf q hq)) ?_
 intro c hc _
 have y1:=hN.no q hi
 rw [y1]
 rw [Maps.atKey_of_not_has y1]at hc
 simp only [DataW.lit.injEq,Lit.int.injEq,true_and]at hc
 rw [<-hc];exact h
def dW:OW:=⟨0,[]⟩
theorem flat_get: ∀(ops:List OW) (n:Nat),(∀o∈ops,gB n o)-> ∀(i j:Nat),i<ops.length->j<257->(ops.flatMap bF)[i*257+j]? =(bF (ops.getD i dW))[j]?
 | [],n,h,i,j,hi,hj=>by simp at hi
 | o::ops,n,h,0,j,hi,hj=>by
   have hl:=(h o (by simp)).len
   rw [Nat.zero_mul,Nat.zero_add,List.flatMap_cons,List.getElem?_append_left (by omega)];rfl
 | o::ops,n,h,i+1,j,hi,hj=>by
   have hl:=(h o (by simp)).len
   have ih:=flat_get ops n (fun x hx=>h x (by simp [hx])) i j (by simpa using hi) hj
   rw [List.flatMap_cons,List.getElem?_append_right (by omega),hl,show(i+1)*257+j-257=i*257+j by omega,ih];rfl
theorem fj(ops:List OW)(i:Nat)(hi:i<ops.length):ops.getD i dW∈ops:=by
 rw [List.getD_eq_getElem?_getD,List.getElem?_eq_getElem hi];exact List.getElem_mem hi
theorem DK.opAt{w:World}{base:Nat}{P:DP}{D:DS}(h:DK w base P D)(hok:cC D)(i:Nat)(hi:i<D.ops.length):
   ∃go cap,P.ov= .slice (some ⟨go,0,none⟩) D.ops.length cap/\go<w.heap.size/\P.ov.ownBlock=some go/\D.ops.length<=cap/\cap<=maxLen/\w.rangeAt go (i*257) (bF (D.ops.getD i dW)):=by
 rcases h.opn.2 with⟨_,h0⟩| ⟨g,cap,cur,e1,e2,e3,e4,e5,e6,e7⟩
 · omega
 · refine⟨g,cap,e1,hlt e3,by rw [e1];rfl,e4,e5,fun j v hv=>?_⟩
   have hj:=(List.getElem?_eq_some_iff.1 hv).1
   rw [(hok.np.2.2.2 _ (fj D.ops i hi)).len]at hj
   rw [cell_of_row _ _ _ _ _ _ e3,<-hv,<-flat_get D.ops D.np hok.np.2.2.2 i j hi hj,<-e7,List.getElem?_take,if_pos (by omega),Array.getElem?_toList]
theorem AR{w:World}{g o:Nat}{x:OW}(h:w.rangeAt g o (bF x))(hg:g<w.heap.size)(hd:x.data.length=256)(cap:Nat)(hc:256<=cap)(hm:cap<=maxLen):Src w (some ⟨g,o+1,none⟩) cap x.data:=by
 refine⟨by omega,hm,g,o+1,fun _=>hg,fun _=>rfl,fun j hj=>?_⟩
 have:=h (j+1) (.int .u8 (x.data.getD j 0)) (by rw [bF,List.getElem?_cons_succ,fx _ _ _ hj])
 rwa [show o+1+j=o+(j+1) by omega]
def DS.aj(D:DS)(q:Nat):List Int:=match gC D.ops q with| some i=>(D.ops.getD i dW).data| none=>(D.af.drop (q*256)).take 256
theorem GY(w:World)(base:Nat)(P:DP)(D:DS)(h:DK w base P D)(cM:D.power=false)(q:Int):
   Calls Tryz.prog 60 #[.pointer (some ⟨P.p,0,none⟩), .int .i64 q] w fun e w'=>e= .returned (.tuple #[.slice none 0 0, .int .i64 2])/\w=w':=by
 have c7:=h.c7
 rw [cM]at c7
 clear cM h
 go_enter Tryz.func60,Tryz.ntmps60
 go_wp2
 go_ret2
 exact⟨rfl,rfl⟩
theorem Ny(w:World)(base:Nat)(P:DP)(D:DS)(h:DK w base P D)(hok:cC D)(cM:D.power=true)(q:Nat)(hq:q<D.np)(hr:D.reads<4000000000000000000):
   Calls Tryz.prog 60 #[.pointer (some ⟨P.p,0,none⟩), .int .i64 q] w fun e w'=> ∃v,e= .returned (.tuple #[v, .int .i64 0])/\Own w' w.heap.size v (D.aj q)/\DK w' base P {D with reads:=D.reads+1}/\Fr P.fp w w':=by
 have c7:=h.c7
 rw [cM]at c7
 obtain⟨h3,h4,hn,hop⟩:=hok.np
 have HP:=aa (GR w base P D h D.np hn h4 q)
 have HE:=aa (show decide (0<=(q:Int)/\(q:Int)<D.np)=true from decide_eq_true ⟨by omega,by omega⟩)
 have c0:=h.c0
 have f0:=h.fz 0
 have hq4:q<4096:=by omega
 have rb:=hok.reads
 have ir:D.reads+1<=9223372036854775807:=by omega
 have ir0:0<=D.reads:=rb.1
 have h1:=h.put (D':={D with reads:=D.reads+1}) 0 (.int .i64 (D.reads+1)) rfl rfl rfl
 have hF:=(Fr.refl P.fp w).setCell h.hp 0 (.int .i64 (D.reads+1))
 have ok1:cC {D with reads:=D.reads+1}:=⟨hok.n,hok.bts,hok.ops,by show 0<=D.reads+1/\D.reads+1<=_;omega,hok.writes,hok.aA,hok.ag,hok.armed⟩
 have hsz:(w.setCell ⟨P.p,0,none⟩ (.int .i64 (D.reads+1))).heap.size=w.heap.size:=World.size_setCell _ _ _
 cases hl:gC D.ops q with
 | some i=>
   have hi:=oz hl
   have pS:D.aj q=(D.ops.getD i dW).data:=by unfold DS.aj;rw [hl]
   obtain⟨go,cap,e1,e2,e3,e4,e5,e6⟩:=h1.opAt ok1 i hi
   have iC:(D.ops.getD i dW).data.length=256:=(hop _ (fj D.ops i hi)).2.1
   have HC:=sw _ _ _ _ (AR e6 e2 iC 256 (Nat.le_refl _) (by unfold maxLen;omega)) (fun e=>by cases e) (by show(D.ops.getD i dW).data.length<=_;rw [iC];decide)
   simp only at HC e1 e6
   rw [iC]at HC
   have Ef:=aa HC
   clear HC
   rw [pS]
   have k5:=h1.c5
   have k6:=h1.c6
   rw [e1]at k5
   have km:=h1.mp
   have kn:=h1.new
   simp only at k5 k6 km kn
   have HL:=aa hl
   have uS:=aa (fun(w2:World) (hb:Below (w.setCell ⟨P.p,0,none⟩ (.int .i64 (D.reads+1))).heap.size (w.setCell ⟨P.p,0,none⟩ (.int .i64 (D.reads+1))) w2)=>(show DK w2 base P {D with reads:=D.reads+1}/\Fr P.fp w w2 from⟨h1.below hb,hF.tail (F':= []) hb⟩))
   have rp:=aa hsz
   have ii:(i:Int)<(D.ops.length:Int):=by omega
   have Xb:=hok.ops
   unfold maxLen at e5
   clear h1 hF h hn cM hl pS iC hsz hop ok1 e1 e2 e3 e6 rb hok
   obtain⟨p,g,m,gc,ov,rs,M⟩:=P
   simp only at*
   go_enter Tryz.func60,Tryz.ntmps60
   go_wp2_with (first
     | (go_at_call 45;refine HP.out.mono ?_;rintro e w0 ⟨rfl,rfl⟩;rw [HE.out])
     | (at_lookup;refine wh rfl (.tmp 32) (.tmp 33) rfl m _ M _ rfl km kn q rfl hq4 i HL.out ?_)
     | (go_at_call 25;refine Ef.out.mono ?_;rintro e w2 ⟨v,rfl,hO,hB⟩))
   go_ret2
   obtain⟨q1,q2⟩:=uS.out _ hB
   exact⟨v,rfl,by rw [rp.out]at hO;exact hO,q1,q2⟩
 | none=>
   have pS:D.aj q=(D.af.drop (q*256)).take 256:=by unfold DS.aj;rw [hl]
   have HB:=aa (qE _ base P _ h1 D.np hn h4 q hq)
   have lB:=h1.src (q*256) 256 (P.gc-q*256) (by show q*256+256<=D.af.length;omega) (by have:=h.gl;omega) (by have:=h.gm;omega)
   have iC:((D.af.drop (q*256)).take 256).length=256:=by simp;omega
   have HC:=sw _ _ _ _ lB (fun e=>by cases e) (by show((D.af.drop (q*256)).take 256).length<=_;rw [iC];decide)
   simp only at HC
   rw [iC]at HC
   have Ef:=aa HC
   clear HC
   rw [pS]
   have k6:=h1.c6
   have km:=h1.mp
   have kn:=h1.new
   simp only at k6 km kn
   have HL:=aa hl
   have uS:=aa (fun(w2:World) (hb:Below (w.setCell ⟨P.p,0,none⟩ (.int .i64 (D.reads+1))).heap.size (w.setCell ⟨P.p,0,none⟩ (.int .i64 (D.reads+1))) w2)=>(show DK w2 base P {D with reads:=D.reads+1}/\Fr P.fp w w2 from⟨h1.below hb,hF.tail (F':= []) hb⟩))
   have rp:=aa hsz
   clear h1 hF h hn cM hl pS iC hsz hop ok1 rb hok lB
   obtain⟨p,g,m,gc,ov,rs,M⟩:=P
   simp only at*
   go_enter Tryz.func60,Tryz.ntmps60
   go_wp2_with (first
     | (go_at_call 45;refine HP.out.mono ?_;rintro e w0 ⟨rfl,rfl⟩;rw [HE.out])
     | (at_lookup;refine xY rfl (.tmp 32) (.tmp 33) rfl m _ M _ rfl km kn q rfl hq4 HL.out ?_)
     | (go_at_call 46;refine HB.out.mono ?_;rintro e w1 ⟨rfl,rfl⟩)
     | (go_at_call 25;refine Ef.out.mono ?_;rintro e w2 ⟨v,rfl,hO,hB⟩))
   go_ret2
   obtain⟨q1,q2⟩:=uS.out _ hB
   exact⟨v,rfl,by rw [rp.out]at hO;exact hO,q1,q2⟩
def putAt(af:List Int)(o:Nat)(zs:List Int):List Int:=af.take o++zs++af.drop (o+zs.length)
theorem yX(af:List Int)(o:Nat)(zs:List Int)(h:o+zs.length<=af.length):(putAt af o zs).length=af.length:=by
 simp [putAt];omega
theorem yY{af zs:List Int}(o:Nat)(h:jC af)(k:jC zs):jC (putAt af o zs):=fun x hx=>by
 rcases List.mem_append.1 hx with h1| h1
 · rcases List.mem_append.1 h1 with h2| h2
   · exact h x (List.mem_of_mem_take h2)
   · exact k x h2
 · exact h x (List.mem_of_mem_drop h1)
theorem yZ(af:List Int)(o:Nat)(zs:List Int)(h:o+zs.length<=af.length)(j:Nat):(putAt af o zs).getD j 0=if o<=j/\j<o+zs.length then zs.getD (j-o) 0 else af.getD j 0:=by
 have ht:(af.take o).length=o:=by simp;omega
 unfold putAt
 rw [List.getD_eq_getElem?_getD,List.append_assoc]
 by_cases h1:j<o
 · rw [List.getElem?_append_left (by omega),if_neg (by omega),List.getElem?_take,if_pos h1,<-List.getD_eq_getElem?_getD]
 · rw [List.getElem?_append_right (by omega),ht]
   by_cases h2:j<o+zs.length
   · rw [List.getElem?_append_left (by omega),if_pos (by omega),<-List.getD_eq_getElem?_getD]
   · rw [List.getElem?_append_right (by omega),if_neg (by omega),List.getElem?_drop,show o+zs.length+(j-o-zs.length)=j by omega,<-List.getD_eq_getElem?_getD]
theorem wj(af:List Int)(o:Nat)(zs:List Int)(rest:List Value)(h:o+zs.length<=af.length):(ints .u8 af++rest).take o++ints .u8 zs++(ints .u8 af++rest).drop (o+(ints .u8 zs).length)=ints .u8 (putAt af o zs)++rest:=by
 rw [aI,List.take_append_of_le_length (by rw [aI];omega),List.drop_append_of_le_length (by rw [aI];omega)]
 simp [putAt,ints,List.map_take,List.map_drop]
theorem DK.GZ{w:World}{base:Nat}{P:DP}{D:DS}(h:DK w base P D)(AU:List Int)(hl:AU.length=D.af.length):DK (w.setRow P.g (ints .u8 AU++P.rest).toArray) base P {D with af:=AU}:=by
 have hne: ∀i,i≠P.g->(w.setRow P.g (ints .u8 AU++P.rest).toArray).heap[i]? =w.heap[i]? :=fun i hi=>setRow_other w _ _ _ hi
 refine⟨?_,setRow_heap w P.g _ _ _ _ h.im,by show AU.length<=_;rw [hl];exact h.gl,h.gm,?_,iB h.mp (hne _ h.OS.symm),h.new,h.bp,h.bg,h.bm⟩
 · rw [hne _ h.pg,h.cell]
   simp [kO,hl]
 · exact cZ h.opn fun i e=>hne i (fun q=>h.go (q▸e))
theorem DK.hg{w:World}{base:Nat}{P:DP}{D:DS}(h:DK w base P D):P.g∈P.fp:=(P.mem _).2 (Or.inr (Or.inl rfl))
theorem Fr.setRow{F:List Nat}{a b:World}(h:Fr F a b){g:Nat}(hg:g∈F)(cs:Array Value):Fr F a (b.setRow g cs):=
 ⟨h.os,h.tape,h.output,by rw [size_setRow];exact h.size,fun k hk hn=>(setRow_other b g k cs (fun e=>hn (e▸hg))).trans (h.block k hk hn)⟩
theorem Fr.alloc{F:List Nat}{a b:World}(h:Fr F a b)(o:Obj):Fr F a (b.alloc o):=h.tail (F':= []) ((Below.refl _ b).alloc (Nat.le_refl _) o)
theorem DK.drew{w:World}{base:Nat}{P:DP}{D:DS}(h:DK w base P D):DK w.drew base P D:=h.of_heap fun _ _=>rfl
def lay1(af:List Int)(o:OW):List Int:=putAt af (o.page*256) o.data
def dL(af:List Int)(ops:List OW)(n:Nat):List Int:=(ops.take n).foldl lay1 af
theorem uT{af:List Int}{n:Nat}{o:OW}(h:af.length=256*n)(ho:gB n o):(lay1 af o).length=256*n:=by
 obtain⟨h1,h2,h3⟩:=ho
 unfold lay1
 rw [yX _ _ _ (by omega),h]
theorem Fo(ops:List OW)(i:Nat)(hi:i<ops.length):ops.take (i+1)=ops.take i++ [ops.getD i dW]:=by
 rw [List.take_succ_eq_append_getElem hi,List.getD_eq_getElem?_getD,List.getElem?_eq_getElem hi];rfl
theorem kP(af:List Int)(ops:List OW)(i:Nat)(hi:i<ops.length):dL af ops (i+1)=lay1 (dL af ops i) (ops.getD i dW):=by
 unfold dL;rw [Fo ops i hi,List.foldl_append];rfl
theorem iK{af:List Int}{ops:List OW}{n:Nat}(h:af.length=256*n)(ho: ∀o∈ops,gB n o): ∀i,i<=ops.length->(dL af ops i).length=256*n
 | 0,_=>h
 | i+1,hi=>by rw [kP _ _ _ (by omega)];exact uT (iK h ho i (by omega)) (ho _ (fj ops i (by omega)))
theorem sJ{af:List Int}{ops:List OW}{n:Nat}(h:jC af)(ho: ∀o∈ops,gB n o): ∀i,i<=ops.length->jC (dL af ops i)
 | 0,_=>h
 | i+1,hi=>by rw [kP _ _ _ (by omega)];exact yY _ (sJ h ho i (by omega)) (ho _ (fj ops i (by omega))).2.2
theorem aC{w:World}{x:Obj}{i:Nat}(hx:w.heap[i]? =some x):i<w.heap.size:=hlt hx
theorem Ha(w:World)(base:Nat)(P:DP)(D:DS)(h:DK w base P D)(hok:cC D)(cM:D.power=true)(wk:D.armed≠1)(uy:D.aA<4000000000000000000):
   Calls Tryz.prog 59 #[.pointer (some ⟨P.p,0,none⟩)] w fun e w'=>e= .returned (.int .i64 0)/\DK w' base {P with ov:= .slice none 0 0,M:= .map []} {D.bn with af:=dL D.af D.ops D.ops.length,ops:= [],aA:=D.aA+1}/\Fr P.fp w w':=by
 have c7:=h.c7
 rw [cM]at c7
 have HA:=vU w base P D h hok.armed
 have ha0:D.eW=0:=by unfold DS.eW;rw [if_neg wk]
 rw [ha0]at HA
 have wm:=aa HA
 obtain⟨h3,h4,hn,hop⟩:=hok.np
 obtain⟨s1,s2,s3,s4,s5,s6⟩:=ez D
 have vW:=hok.ops
 have sy:=hok.aA
 have sb:D.aA+1<=9223372036854775807:=by omega
 have sb0:0<=D.aA:=sy.1
 have AV:=ij hok
 have Sr:P.gc<=9223372036854775807:=by have:=h.gm;unfold maxLen at this;omega
 clear HA ha0 wk cM h sy
 obtain⟨p,g,m,gc,ov,rs,M⟩:=P
 simp only at*
 go_enter Tryz.func59,Tryz.ntmps59
 go_wp2_with (go_at_call 83;refine wm.out.mono ?_;rintro e w1 ⟨rfl,h1,f1⟩;have k5:=h1.c5;obtain⟨jD,eX,sI⟩:=ei h1.opn;simp only at sI;rw [s2]at sI;subst sI;simp only at k5)
 clear wm c7
 have Ph:=aa (fun(i:Nat) (hi:i<=D.ops.length)=>(show cC {D.bn with af:=dL D.af D.ops i}from⟨⟨D.np,h3,h4,iK hn hop i hi,by rw [s2];exact hop⟩,sJ hok.bts hop i hi,by rw [s2];exact vW,AV.reads,AV.writes,AV.aA,AV.ag,AV.armed⟩))
 have oC:=aa (fun(i:Nat) (hi:i<=D.ops.length)=>iK hn hop i hi)
 have Hb:DK w1 base ⟨p,g,m,gc, .slice jD D.ops.length eX,rs,M⟩ {D.bn with af:=dL D.af D.ops 0}:=by
   show DK w1 base _ {D.bn with af:=D.af}
   rw [<-s1];exact h1
 have S2:=aa s2
 have S6:=aa s6
 have iJ:=aa hop
 clear s1 s2 s3 s4 s5 s6 h1 k5 hn hop
 go_loopw [21] (fun iv wr=> ∃i:Nat,i<=D.ops.length/\iv= .int .i64 i/\DK wr base ⟨p,g,m,gc, .slice jD D.ops.length eX,rs,M⟩ {D.bn with af:=dL D.af D.ops i}/\Fr (DP.mk p g m gc (.slice jD D.ops.length eX) rs M).fp w wr) (fun iv _=>D.ops.length-(intOf iv).toNat)
 case atStart=>exact⟨0,by omega,rfl,Hb,f1⟩
 case round=>
   clear Hb f1
   obtain⟨i,hi,rfl,hD,hF⟩:=hrel
   by_cases hlt:i<D.ops.length
   · have i1:(i:Int)<(D.ops.length:Int):=by omega
     obtain⟨go,cap,e1,e2,e3,e4,e5,rg⟩:=hD.opAt (Ph.out i hi) i (by show i<D.bn.ops.length;rw [S2.out];exact hlt)
     simp only [Value.slice.injEq]at e1
     obtain⟨rfl,Pj,rfl⟩:=e1
     clear Pj
     simp only at rg
     rw [S2.out]at rg
     obtain⟨o,ho⟩: ∃o,o=D.ops.getD i dW:=⟨_,rfl⟩
     rw [<-ho]at rg
     have Eg:gB D.np o:=by rw [ho];exact iJ.out _ (fj _ _ hlt)
     have Su:=aa (show dL D.af D.ops (i+1)=putAt (dL D.af D.ops i) (o.page*256) o.data by rw [kP _ _ _ hlt,<-ho];rfl)
     have kQ:=oC.out i hi
     clear ho
     obtain⟨fY,iC,rq⟩:=Eg
     have hel:(bF o).length=257:=by rw [bF,List.length_cons,aI,iC]
     have oB:(Tryz.prog.info? 103).map (·.size)=some (bF o).length:=by rw [tT,hel]
     obtain⟨Z0,hZ0⟩: ∃Z,Z=zW 0:=⟨_,rfl⟩
     have HZ0:=aa hZ0
     have g1:=aa (aF wr (.cells Z0.toArray 103))
     have K1:=aa (show(Tryz.prog.info? 103).map (·.size)=some (bF o).toArray.size by rw [tT,List.size_toArray,hel])
     have K2:=aa (show Z0.toArray.size=(bF o).toArray.size by rw [hZ0,List.size_toArray,List.size_toArray,pU,hel])
     have oo:=aa (all_oneCell_toArray (qD o))
     have hA:=(hD.below ((Below.refl _ wr).alloc (Nat.le_refl _) (.cells (bF o).toArray 103))).drew
     have gN:=aF wr (.cells (bF o).toArray 103)
     have Mi:=aa (qE _ base _ _ hA D.np kQ h4 o.page fY)
     have nv:=aa hA.im
     have KN0:=aa (show(wr.alloc (.cells (bF o).toArray 103)).drew.cell? ⟨wr.heap.size,0,none⟩=some (.int .i64 o.page) by
       rw [cell_of_row _ _ _ _ _ _ (show(wr.alloc (.cells (bF o).toArray 103)).drew.heap[wr.heap.size]? =_ from gN)];rfl)
     have KC:=aa (show(ints .u8 o.data).length=Nat.min 256 256 by rw [aI,iC];decide)
     have Ki:=aa (qw (AR (yK (show(wr.alloc (.cells (bF o).toArray 103)).drew.heap[wr.heap.size]? =_ from gN)) (by show wr.heap.size<(wr.heap.push _).size;simp) iC 256 (Nat.le_refl _) (by unfold maxLen;omega)))
     have Kj:=aa (show o.page*256+(ints .u8 o.data).length<=(ints .u8 (dL D.af D.ops i)++rs).length by rw [aI,List.length_append,aI,iC,kQ];omega)
     have Sv:g<wr.heap.size:=aC hD.im
     have Pk:=aa (show(ints .u8 (dL D.af D.ops i)++rs).take (o.page*256)++ints .u8 o.data++(ints .u8 (dL D.af D.ops i)++rs).drop (o.page*256+(ints .u8 o.data).length)=ints .u8 (dL D.af D.ops (i+1))++rs by rw [wj _ _ _ _ (by omega),Su.out])
     have hD2:=hA.GZ (dL D.af D.ops (i+1)) (by show _=(dL D.af D.ops i).length;rw [kQ,oC.out (i+1) (by omega)])
     have hF2:=(hF.alloc (.cells (bF o).toArray 103)).drew.setRow hD.hg (ints .u8 (dL D.af D.ops (i+1))++rs).toArray
     have AW:=aa hD2
     have AX:=aa hF2
     have Fp:=aa (fun cs=>(show((wr.alloc (.cells (bF o).toArray 103)).drew.setRow g cs).cell? ⟨wr.heap.size,0,none⟩=some (.int .i64 o.page) by
       rw [World.cell?,setRow_other _ _ _ _ (show wr.heap.size≠g by omega)];exact KN0.out))
     have hgc2:gc<=9223372036854775807:=Sr
     clear hD hF hA gN hD2 hF2 e2 e3 e4 e5 kQ hel hZ0 Su
     simp only at*
     go_wp2_with (first
       | refine wpList_load_mid rfl 103 _ rfl go (i*257) rfl _ _ rg Tryz.underlying103 rfl oB ?_
       | refine jX rfl rfl Z0 HZ0.out ?_
       | (refine wpList_store_row rfl 103 _ _ rfl wr.heap.size _ rfl rfl 103 _ g1.out K1.out K2.out oo.out ?_;rw [aP]))
     clear g1 K1 K2 oo HZ0 rg
     generalize yU:wr.heap.size=N at*
     clear yU
     refine wp_region_noPanic ?_
     refine wp_region_held_drew (S:=fun w'=>w'.cell? ⟨N,0,none⟩=some (.int .i64 o.page)) (by kernel_rfl) KN0.out (fun hHeld=>?_)
     refine ai 0 (.pointer (some ⟨p,0,none⟩)) rfl hHeld ?_
     try go_frame
     refine ai 1 (.pointer (some ⟨N,0,none⟩)) rfl hHeld ?_
     try go_frame
     refine ai 4 (.pointer (some ⟨N,1,none⟩)) rfl hHeld ?_
     try go_frame
     refine aV 2 (.int .i64 o.page) rfl (yA (by intro w hS;have hc:=hS;go_simp)) hHeld ?_
     try go_frame
     refine ai 5 (.slice (some ⟨N,1,none⟩) 256 256) rfl hHeld ?_
     try go_frame
     refine bR 3 rfl (fun K hK=>?_)
     go_simp
     go_at_call 46
     refine Mi.out.mono ?_
     rintro e w4 ⟨rfl,rfl⟩
     go_wp2_with fail
     refine hK.out _ _ (hHeld) ?_
     clear hK K hHeld
     intro hHeld
     try go_frame
     refine bR 6 rfl (fun K hK=>?_)
     refine mz rfl (.tmp 28) (.tmp 30) 31 31 rfl 5 Tryz.underlying31 Tryz.size5 ⟨N,1,none⟩ 256 (gc-o.page*256) 256 256 g (o.page*256) rfl rfl _ 5 nv.out (ints .u8 o.data) KC.out Ki.out Kj.out (dR .u8 o.data) ?_
     refine hK.out _ _ (Fp.out _) ?_
     clear hK K hHeld
     intro hHeld
     try go_frame
     refine dY ?_
     clear hHeld
     rw [Pk.out]
     go_wp2
     go_roundw
     case rel=>exact⟨i+1,by omega,by go_num,AW.out,AX.out⟩
     case measure=>simp [intOf];omega
   · obtain rfl:i=D.ops.length:=by omega
     clear hlt
     have k3:=aa (uv wr base _ _ hD)
     have HF:=aa hF
     clear hD hF
     go_wp2_with (go_at_call 44;refine k3.out.mono ?_;rintro e w5 ⟨rfl,h5,f5⟩;have c2:=h5.c2;have fz2:=h5.fz 2;simp only at c2 fz2;rw [S6.out]at c2)
     go_ret
     have h6:=h5.put (D':={D.bn with af:=dL D.af D.ops D.ops.length,ops:= [],aA:=D.aA+1}) 2 (.int .i64 (D.aA+1)) rfl rfl rfl
     exact⟨rfl,h6,(HF.out.trans f5 (Gr.refl _ _)).setCell ((DP.mem _ _).2 (Or.inl rfl)) _ _⟩
end Go.Proofs.YtpdakmhnnkaafaaGreat

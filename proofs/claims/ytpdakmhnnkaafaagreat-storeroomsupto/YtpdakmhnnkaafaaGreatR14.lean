import Derived.Maps.RangeWalk
import Derived.Test.YtpdakmhnnkaafaaGreatR13
import Derived.Defers
namespace Go.Proofs.YtpdakmhnnkaafaaGreat
set_option maxRecDepth 100000
set_option maxHeartbeats 40000000
set_option linter.unusedVariables false
set_option linter.unusedSimpArgs false
open Go.RowKit
open Go.Proofs.YtpdakmhnnkaafaaGreat.Ca (Ct ct0 av bV AS)
attribute [local go_sem ↓] Go.wp_at_zero Go.wp_at_succ
theorem FP(w:World)(r:Option Nat):w.grownBy w r:=⟨rfl,rfl,rfl,Nat.le_refl _,fun _ _ _=>rfl⟩
theorem SK.UC{w3 w4:World}{base:Nat}{S:au}(h:SK w3 base S)(c:Ct){t2:Obj}(hg:((w3.alloc (.cells (av c).toArray 93)).drew.alloc t2).grownBy w4 S.sv.ownBlock):w4.rangeAt w3.heap.size 0 (av c):=by
 have s1:(w3.alloc (.cells (av c).toArray 93)).heap.size=w3.heap.size+1:=by simp
 have s2:((w3.alloc (.cells (av c).toArray 93)).drew.alloc t2).heap.size=w3.heap.size+2:=by
   rw [show((w3.alloc (.cells (av c).toArray 93)).drew.alloc t2).heap.size=(w3.alloc (.cells (av c).toArray 93)).heap.size+1 by simp [World.drew],s1]
 have eN:w4.heap[w3.heap.size]? =some (.cells (av c).toArray 93 (0,0)):=by
   rw [hg.block _ (by rw [s2];omega) (fun e=>by have:=(h.dG (Or.inr (Or.inr (Or.inr (Or.inr (Or.inl e.symm)))))).2;omega)]
   exact((aq (w3.alloc (.cells (av c).toArray 93)).drew t2).block w3.heap.size (by show _<(w3.alloc (.cells (av c).toArray 93)).heap.size;rw [s1];omega)).trans (aF w3 _)
 intro j v hv
 rw [cell_of_row _ _ _ _ _ _ eN]
 simpa using hv
theorem SK.Iy{w:World}{base:Nat}{S:au}(h:SK w base S)(k:Int)(hk:S.s.ma+S.aB.length<=k):S.a.val k=none:=by
 unfold Ca.AS.val
 rw [h.hd,qL _ _ _ (Or.inr hk)]
 show Ca.dr S.a.clean k=none
 unfold Ca.dr
 rw [List.find?_eq_none.2]
 · rfl
 · intro x hx
   obtain⟨v,_,_,q,_⟩:=h.ck x hx
   simp
   omega
theorem kZ: ∃i,Tryz.prog.info? 93=some i/\i.size=2:=by
 obtain⟨i,z,h1,_,_,h2,_⟩:=FO
 exact⟨i,h1,h2⟩
theorem xc(w:World)(base:Nat)(S:au)(h:SK w base S)(hlv:ak S.D S.ep=0)(hl:S.aB.length<=100000)(hm:2<=S.s.ma/\S.s.ma<=100000)(hN:S.N<3000000000000000000)(gI:S.s.ma+S.aB.length≠(S.D.np:Int))(kd:Int)(hk:1<=kd/\kd<=3)(zs:List Int)(h8:aS zs)(hz:zs.length<=246)(sp:Option Addr)(cap:Nat)(hS:Src w sp cap zs)(hn:sp=none->cap=0):
   Calls Tryz.prog 14 #[.pointer (some ⟨S.st,0,none⟩), .int .i64 kd, .slice sp zs.length cap] w fun e w'=> ∃FC lb a sv c,e= .returned (.tuple #[.int .i64 (S.s.ma+S.aB.length), .int .i64 0])/\a={S.a with held:=S.a.held++ [(S.s.ma+S.aB.length,c)]}/\SK w' base {S with FC:=FC,lb:=lb,N:=S.N+1,a:=a,sv:=sv,aB:=S.aB++ [c],vs:=S.vs++ [(kd,zs)]}/\Fr S.fp w w'/\Gr w S.fp (au.fp {S with FC:=FC,lb:=lb,sv:=sv}):=by
 have HL:=aa (dn w base S h)
 rw [hlv]at HL
 have HN:=aa (fun w1 (q:Below w.heap.size w w1)=>kD w1 base S (h.below q) hl ⟨by omega,by omega⟩)
 have HP:=aa (fun w1 (q:Below w.heap.size w w1)=>mZ w1 base S (h.below q))
 have HC:=aa (fun w1 (q:Below w.heap.size w w1)=>qM w1 zs sp cap (hS.below q (Nat.le_refl _)) hn (by omega))
 have HH:=aa (fun w1 (q:Below w.heap.size w w1)=>h.below q)
 obtain⟨kF,kG,xd⟩:=h.Iu
 have HE:=aa xd
 obtain⟨k1,k3⟩:=hk
 have XS:(zs.length:Int)<=246:=by omega
 have hne:(S.s.ma+(S.aB.length:Int)==(S.D.np:Int))=false:=by simpa using gI
 have Hk:=aa (show 1<=kd/\kd<=3 from⟨k1,k3⟩)
 have Hm:=aa hm
 have HL1:=aa (show S.aB.length+1<=400000000001 by omega)
 have Hl:=aa hl
 have Hz:=aa hz
 have H8:=aa h8
 have mL:=aa hN
 clear h hlv hS hm hl hz h8 hn hN gI xd
 generalize fY:S.s.ma+(S.aB.length:Int)=pg at*
 have jw:=aa fY
 clear fY
 have OY:=Ag kd
 go_enter Tryz.func14,Tryz.ntmps14
 go_wp2_with fail
 refine HL.out.mono ?_
 rintro e w1 ⟨rfl,hb1⟩
 have HB1:=aa hb1
 clear hb1 HL
 go_wp2_with fail
 refine(HN.out w1 HB1.out).mono ?_
 rintro e w2 ⟨rfl,hb2⟩
 have HB2:=aa (HB1.out.trans (hb2.mono HB1.out.size))
 clear hb2 HB1 w1 HN
 go_wp2_with fail
 refine(HP.out w2 HB2.out).mono ?_
 rintro e w0 ⟨rfl,rfl⟩
 go_wp2_with fail
 refine(HC.out w2 HB2.out).mono ?_
 rintro e w3 ⟨v,rfl,hO3,hb3⟩
 have HB23:=aa hb3
 have HB3:=aa (HB2.out.trans (hb3.mono HB2.out.size))
 have HO3:=aa hO3
 obtain⟨dz,cv,hv,_,_⟩:=hO3.form
 subst hv
 clear hb3 hO3 HC HP
 go_wp2
 have H3:=aa (HH.out w3 HB3.out)
 have hst3:=H3.out.iW
 generalize hW:w3.alloc (.cells #[.int .i64 kd, .slice dz zs.length cv] 93)=W at*
 have hW':w3.alloc (.cells (av ⟨kd,dz,zs.length,cv⟩).toArray 93)=W:=hW
 have HW:=aa hW'
 clear hW hW'
 have HB4:Hid (Below w3.heap.size w3 W.drew):=aa (by rw [<-HW.out];exact(aq w3 _).drew)
 have H4:=aa (H3.out.below HB4.out)
 have Qc:W.drew.cell? ⟨S.st,3,none⟩=some (.slice kF S.aB.length kG):=by rw [<-HE.out];exact H4.out.c3
 have mj:Hid (∀o:Obj,(W.alloc o).drew.cell? ⟨S.st,3,none⟩=some (.slice kF S.aB.length kG)):=aa (fun o=>by rw [<-HE.out];exact(H4.out.below (aq _ o)).c3)
 have HOW:Hid (W.drew.ownsRow base 93 2 (.slice kF S.aB.length kG) S.aB.length (S.aB.flatMap av)):=aa (by rw [<-HE.out];exact H4.out.so)
 have lC:Hid (base<=W.drew.heap.size):=aa H4.out.base
 have HS0:Hid (∀(w4:World) (t2:Obj) (v4:Value),(W.drew.alloc t2).grownBy w4 (Value.slice kF S.aB.length kG).ownBlock->Ca.CA (w4.setCell ⟨S.st,3,none⟩ v4) base S.FC S.pc S.N S.a/\(w4.setCell ⟨S.st,3,none⟩ v4).cell? ⟨S.st,2,none⟩=some (.pointer (some ⟨S.pc,0,none⟩))/\(w4.setCell ⟨S.st,3,none⟩ v4).rangeAt w3.heap.size 0 (av ⟨kd,dz,zs.length,cv⟩)/\(w4.setCell ⟨S.st,3,none⟩ v4).heap[S.st]? =some (.cells (kY S.g S.pc v4).toArray 96 (0,0))/\w4.frozen? ⟨S.st,3,none⟩=false/\w4.cell? ⟨S.st,3,none⟩=some (.slice kF S.aB.length kG)/\w3.heap.size<w4.heap.size):=aa (fun w4 t2 v4 hg=>by
   rw [<-HW.out,<-HE.out]at hg
   have:=H3.out.staged0 ⟨kd,dz,zs.length,cv⟩ hg v4
   rw [HE.out]at this
   exact this)
 have Iz:Hid (∀(w4:World) (t2:Obj),(W.drew.alloc t2).grownBy w4 (Value.slice kF S.aB.length kG).ownBlock->w4.rangeAt w3.heap.size 0 (av ⟨kd,dz,zs.length,cv⟩)):=aa (fun w4 t2 hg=>by
   rw [<-HW.out,<-HE.out]at hg
   exact H3.out.UC ⟨kd,dz,zs.length,cv⟩ hg)
 have Mt:Hid (∀t2:Obj,(W.drew.alloc t2).rangeAt w3.heap.size 0 (av ⟨kd,dz,zs.length,cv⟩)):=aa (fun t2=>Iz.out _ t2 (FP _ _))
 have HR0:Hid (W.drew.rangeAt w3.heap.size 0 (av ⟨kd,dz,zs.length,cv⟩)):=aa (by
   have eN:W.drew.heap[w3.heap.size]? =some (.cells (av ⟨kd,dz,zs.length,cv⟩).toArray 93 (0,0)):=by rw [<-HW.out];exact aF w3 _
   intro j v hv
   rw [cell_of_row _ _ _ _ _ _ eN]
   simpa using hv)
 have Mu:Hid (∀W5:World,Ca.CA W5 base S.FC S.pc S.N S.a->Calls Tryz.prog 38 #[.pointer (some ⟨S.pc,0,none⟩), .int .i64 pg, .agg (av ⟨kd,dz,zs.length,cv⟩).toArray] W5.drew fun x w'=>x= .returned (.tuple #[])/\Ca.Nx base S.FC S.pc S.N W5.drew (S.a.hold pg ⟨kd,dz,zs.length,cv⟩) w'/\S.a.hold pg ⟨kd,dz,zs.length,cv⟩={S.a with held:=S.a.held++ [(pg,⟨kd,dz,zs.length,cv⟩)]}):=aa (fun W5 q=>Ca.KR W5.drew base S.FC S.pc S.N S.a (q.below (Below.refl _ _).drew) pg ⟨kd,dz,zs.length,cv⟩ (by have:=Hm.out;have:=Hl.out;have:=jw.out;unfold Ca.jU;omega) mL.out (H3.out.Iy pg (by rw [jw.out];exact Int.le_refl _)))
 have Ep:Hid (∀(W5:World) (v4:Value),W5.heap[S.st]? =some (.cells (kY S.g S.pc v4).toArray 96 (0,0))->W5.cell? ⟨S.st,2,none⟩=some (.pointer (some ⟨S.pc,0,none⟩))->W5.rangeAt w3.heap.size 0 (av ⟨kd,dz,zs.length,cv⟩)-> ∀w6,Fr S.FC W5.drew w6->w6.cell? ⟨S.st,2,none⟩=some (.pointer (some ⟨S.pc,0,none⟩))/\w6.rangeAt w3.heap.size 0 (av ⟨kd,dz,zs.length,cv⟩)):=aa (fun W5 v4 r4 c2 c3 w6 hF=>by
   have e1:w6.heap[S.st]? =W5.heap[S.st]? :=hF.block S.st (aC r4) H3.out.ct.2.2.1
   have l1:w3.heap.size<W5.heap.size:=World.block_lt_of_cell? W5 _ (c3 0 _ rfl)
   have e2:w6.heap[w3.heap.size]? =W5.heap[w3.heap.size]? :=hF.block _ l1 (fun q=>by have:=(H3.out.ca.lt _ q).2;omega)
   exact⟨(World.cell?_of_block (a:=⟨S.st,2,none⟩) e1).trans c2,fun j v hv=>(World.cell?_of_block (a:=⟨w3.heap.size,0+j,none⟩) e2).trans (c3 j v hv)⟩)
 have HST:Hid (∀(w4:World) (t2:Obj) (sp4:Option Addr) (cap4:Nat),w4.ownsRow base 93 2 (.slice sp4 (S.aB.length+1) cap4) (S.aB.length+1) (S.aB.flatMap av++av ⟨kd,dz,zs.length,cv⟩)->(W.drew.alloc t2).grownBy w4 (Value.slice kF S.aB.length kG).ownBlock->((Value.slice sp4 (S.aB.length+1) cap4).ownBlock=(Value.slice kF S.aB.length kG).ownBlock\/(Value.slice sp4 (S.aB.length+1) cap4).ownBlock=some (W.drew.heap.size+1))-> ∀(w6:World) (F6:List Nat),Ca.CA w6 base F6 S.pc (S.N+1) {S.a with held:=S.a.held++ [(pg,⟨kd,dz,zs.length,cv⟩)]}->Fr S.FC (w4.setCell ⟨S.st,3,none⟩ (.slice sp4 (S.aB.length+1) cap4)).drew w6->Gr (w4.setCell ⟨S.st,3,none⟩ (.slice sp4 (S.aB.length+1) cap4)).drew S.FC F6->SK w6 base {S with FC:=F6,lb:=(Value.slice dz zs.length cv).ownBlock.toList++S.lb,N:=S.N+1,a:={S.a with held:=S.a.held++ [(pg,⟨kd,dz,zs.length,cv⟩)]},sv:= .slice sp4 (S.aB.length+1) cap4,aB:=S.aB++ [⟨kd,dz,zs.length,cv⟩],vs:=S.vs++ [(kd,zs)]}/\Fr S.fp w w6/\Gr w S.fp (au.fp {S with FC:=F6,lb:=(Value.slice dz zs.length cv).ownBlock.toList++S.lb,sv:= .slice sp4 (S.aB.length+1) cap4})):=aa (fun w4 t2 sp4 cap4 hO4 hg hd w6 F6 hC hF hG=>by
   have hsz:W.drew.heap.size+1=w3.heap.size+2:=by rw [<-HW.out];show(w3.alloc _).heap.size+1=_;simp
   rw [hsz]at hd
   rw [<-HE.out]at hd hg
   rw [<-HW.out]at hg
   rw [<-jw.out]at hC⊢
   obtain⟨z1,z2,z3⟩:=SK.PY (HH.out w2 HB2.out) HB23.out ⟨kd,dz,zs.length,cv⟩ zs HO3.out Hk.out Hz.out H8.out (.slice sp4 (S.aB.length+1) cap4) hO4 hg hd F6 hC ⟨hF.os,hF.tape,hF.output,hF.size,hF.block⟩ hG
   exact⟨z1,(Fr.ba (F:=S.fp) HB2.out).trans z2 (Gr.refl _ _),fun k hk=>(z3 k hk).imp id (fun q=>Nat.le_trans HB2.out.size q)⟩)
 have oB:(Tryz.prog.info? 93).map (·.size)=some (av ⟨kd,dz,zs.length,cv⟩).length:=by
   obtain⟨ic,hi1,hi2⟩:=kZ
   rw [hi1];show some ic.size=_;rw [hi2];rfl
 refine wp_region_noPanic ?_
 refine wp_region_held_drew (S:=fun w'=>w'.rangeAt w3.heap.size 0 (av ⟨kd,dz,zs.length,cv⟩)/\True) (by kernel_rfl) ⟨HR0.out,trivial⟩ (fun hHeld=>?_)
 refine ai 0 (.pointer (some ⟨S.st,0,none⟩)) rfl hHeld ?_
 try go_frame
 refine ai 1 (.pointer (some ⟨S.st,0,none⟩)) rfl hHeld ?_
 try go_frame
 refine aV 5 (.agg (av ⟨kd,dz,zs.length,cv⟩).toArray) rfl (yieldsIf_load_mid (by rfl) 93 _ rfl w3.heap.size (0) rfl (av ⟨kd,dz,zs.length,cv⟩) _ (fun w hS=>hS.1) Tryz.underlying93 rfl oB) hHeld ?_
 try go_frame
 refine ai 2 (.pointer (some ⟨S.st,0,none⟩)) rfl hHeld ?_
 try go_frame
 refine ai 3 (.pointer (some ⟨S.st,3,none⟩)) rfl hHeld ?_
 try go_frame
 refine wpAnyH_ready (rs:= [4,6]) (by kernel_rfl) (by simp) ?_
 refine(tQ rfl (fun K hK=>?_) (tQ rfl (fun K hK=>?_) AllReadyH.nil))
 · skip
   go_simp
   refine hK.out _ _ (hHeld) ?_
   clear hK K hHeld
   intro hHeld
   try go_frame
   refine bR 6 rfl (fun K hK=>?_)
   refine uG (by rfl) (.tmp 40) rfl (av ⟨kd,dz,zs.length,cv⟩) rfl rfl ?_
   have VB:=mj.out (.cells (av ⟨kd,dz,zs.length,cv⟩).toArray 93)
   refine hK.out _ _ (⟨Mt.out _,trivial⟩) ?_
   clear hK K hHeld
   intro hHeld
   try go_frame
   refine bR 7 rfl (fun K hK=>?_)
   refine xa (w:=W.drew) rfl (.tmp 39) (.tmp 41) rfl base (.slice kF S.aB.length kG) S.aB.length _ (av ⟨kd,dz,zs.length,cv⟩) rfl HOW.out rfl rfl (qO _) HL1.out lC.out _ _ ?_
   intro v4 w4 hO4 hg4 hd4
   obtain⟨sp4,cap4,rfl⟩:=ei hO4
   obtain⟨q1,q2,q3,q4,q5,q6,q7⟩:=HS0.out w4 _ (.slice sp4 (S.aB.length+1) cap4) hg4
   refine hK.out _ _ (⟨Iz.out w4 _ hg4,trivial⟩) ?_
   clear hK K hHeld
   intro hHeld
   try go_frame
   refine ai 8 (.pointer (some ⟨S.st,0,none⟩)) rfl hHeld ?_
   try go_frame
   refine ai 9 (.pointer (some ⟨S.st,3,none⟩)) rfl hHeld ?_
   try go_frame
   refine bR 10 rfl (fun K hK=>?_)
   go_simp
   refine hK.out _ _ (⟨q3,trivial⟩) ?_
   clear hK K hHeld
   intro hHeld
   try go_frame
   refine dY ?_
   clear hHeld
   have IA:=aa (Mu.out _ q1)
   have Qd:=q2
   have Ee:=q3
   have kC:=aa (Ep.out _ _ q4 q2 q3)
   have HS5:=aa (HST.out w4 _ _ _ hO4 hg4 hd4)
   clear q1 q2 q3 q4 q5 q6 q7 hO4 hg4 hd4 HST Ep Mu HS0 Mt Iz HR0 mj HOW Qc
   generalize hW5:w4.setCell ⟨S.st,3,none⟩ (.slice sp4 (S.aB.length+1) cap4)=W5 at*
   have HW5:=aa hW5
   clear hW5
   go_wp2
   refine wp_region_noPanic ?_
   refine wp_region_held_drew (S:=fun w'=>w'.cell? ⟨S.st,2,none⟩=some (.pointer (some ⟨S.pc,0,none⟩))/\w'.rangeAt w3.heap.size 0 (av ⟨kd,dz,zs.length,cv⟩)) (by kernel_rfl) ⟨Qd,Ee⟩ (fun hHeld=>?_)
   refine ai 0 (.pointer (some ⟨S.st,0,none⟩)) rfl hHeld ?_
   try go_frame
   refine ai 4 (.int .i64 pg) rfl hHeld ?_
   try go_frame
   refine aV 5 (.agg (av ⟨kd,dz,zs.length,cv⟩).toArray) rfl (yieldsIf_load_mid (by rfl) 93 _ rfl w3.heap.size (0) rfl (av ⟨kd,dz,zs.length,cv⟩) _ (fun w hS=>hS.2) Tryz.underlying93 rfl oB) hHeld ?_
   try go_frame
   refine ai 1 (.pointer (some ⟨S.st,0,none⟩)) rfl hHeld ?_
   try go_frame
   refine ai 2 (.pointer (some ⟨S.st,2,none⟩)) rfl hHeld ?_
   try go_frame
   refine aV 3 (.pointer (some ⟨S.pc,0,none⟩)) rfl (yA (by intro w hS;have hc:=hS.1;go_simp)) hHeld ?_
   try go_frame
   refine bR 6 rfl (fun K hK=>?_)
   go_simp
   go_at_call 38
   refine(IA.out).mono ?_
   rintro e w6 ⟨rfl,⟨F6,hC6,hF6,hG6⟩,he6⟩
   go_wp2_with fail
   refine hK.out _ _ (kC.out w6 hF6) ?_
   clear hK K hHeld
   intro hHeld
   try go_frame
   refine dY ?_
   clear hHeld
   rw [he6]at hC6
   have uS:=aa (HS5.out w6 F6 hC6 hF6 hG6)
   clear hC6 hF6 hG6 he6 IA kC HS5
   go_wp2
   go_ret2
   exact⟨F6,_,_,_,_,rfl,rfl,uS.out⟩
 · skip
   refine uG (by rfl) (.tmp 40) rfl (av ⟨kd,dz,zs.length,cv⟩) rfl rfl ?_
   have VB:=mj.out (.cells (av ⟨kd,dz,zs.length,cv⟩).toArray 93)
   refine hK.out _ _ (⟨Mt.out _,trivial⟩) ?_
   clear hK K hHeld
   intro hHeld
   try go_frame
   refine bR 4 rfl (fun K hK=>?_)
   go_simp
   refine hK.out _ _ (hHeld) ?_
   clear hK K hHeld
   intro hHeld
   try go_frame
   refine bR 7 rfl (fun K hK=>?_)
   refine xa (w:=W.drew) rfl (.tmp 39) (.tmp 41) rfl base (.slice kF S.aB.length kG) S.aB.length _ (av ⟨kd,dz,zs.length,cv⟩) rfl HOW.out rfl rfl (qO _) HL1.out lC.out _ _ ?_
   intro v4 w4 hO4 hg4 hd4
   obtain⟨sp4,cap4,rfl⟩:=ei hO4
   obtain⟨q1,q2,q3,q4,q5,q6,q7⟩:=HS0.out w4 _ (.slice sp4 (S.aB.length+1) cap4) hg4
   refine hK.out _ _ (⟨Iz.out w4 _ hg4,trivial⟩) ?_
   clear hK K hHeld
   intro hHeld
   try go_frame
   refine ai 8 (.pointer (some ⟨S.st,0,none⟩)) rfl hHeld ?_
   try go_frame
   refine ai 9 (.pointer (some ⟨S.st,3,none⟩)) rfl hHeld ?_
   try go_frame
   refine bR 10 rfl (fun K hK=>?_)
   go_simp
   refine hK.out _ _ (⟨q3,trivial⟩) ?_
   clear hK K hHeld
   intro hHeld
   try go_frame
   refine dY ?_
   clear hHeld
   have IA:=aa (Mu.out _ q1)
   have Qd:=q2
   have Ee:=q3
   have kC:=aa (Ep.out _ _ q4 q2 q3)
   have HS5:=aa (HST.out w4 _ _ _ hO4 hg4 hd4)
   clear q1 q2 q3 q4 q5 q6 q7 hO4 hg4 hd4 HST Ep Mu HS0 Mt Iz HR0 mj HOW Qc
   generalize hW5:w4.setCell ⟨S.st,3,none⟩ (.slice sp4 (S.aB.length+1) cap4)=W5 at*
   have HW5:=aa hW5
   clear hW5
   go_wp2
   refine wp_region_noPanic ?_
   refine wp_region_held_drew (S:=fun w'=>w'.cell? ⟨S.st,2,none⟩=some (.pointer (some ⟨S.pc,0,none⟩))/\w'.rangeAt w3.heap.size 0 (av ⟨kd,dz,zs.length,cv⟩)) (by kernel_rfl) ⟨Qd,Ee⟩ (fun hHeld=>?_)
   refine ai 0 (.pointer (some ⟨S.st,0,none⟩)) rfl hHeld ?_
   try go_frame
   refine ai 4 (.int .i64 pg) rfl hHeld ?_
   try go_frame
   refine aV 5 (.agg (av ⟨kd,dz,zs.length,cv⟩).toArray) rfl (yieldsIf_load_mid (by rfl) 93 _ rfl w3.heap.size (0) rfl (av ⟨kd,dz,zs.length,cv⟩) _ (fun w hS=>hS.2) Tryz.underlying93 rfl oB) hHeld ?_
   try go_frame
   refine ai 1 (.pointer (some ⟨S.st,0,none⟩)) rfl hHeld ?_
   try go_frame
   refine ai 2 (.pointer (some ⟨S.st,2,none⟩)) rfl hHeld ?_
   try go_frame
   refine aV 3 (.pointer (some ⟨S.pc,0,none⟩)) rfl (yA (by intro w hS;have hc:=hS.1;go_simp)) hHeld ?_
   try go_frame
   refine bR 6 rfl (fun K hK=>?_)
   go_simp
   go_at_call 38
   refine(IA.out).mono ?_
   rintro e w6 ⟨rfl,⟨F6,hC6,hF6,hG6⟩,he6⟩
   go_wp2_with fail
   refine hK.out _ _ (kC.out w6 hF6) ?_
   clear hK K hHeld
   intro hHeld
   try go_frame
   refine dY ?_
   clear hHeld
   rw [he6]at hC6
   have uS:=aa (HS5.out w6 F6 hC6 hF6 hG6)
   clear hC6 hF6 hG6 he6 IA kC HS5
   go_wp2
   go_ret2
   exact⟨F6,_,_,_,_,rfl,rfl,uS.out⟩
theorem SK.uY{w:World}{base:Nat}{S:au}(h:SK w base S)(j:Nat)(hj:j<S.aB.length):S.a.val (S.s.ma+j)=some (S.aB.getD j ct0):=by
 unfold Ca.AS.val
 rw [h.hd,BD _ _ _ hj]
 rfl
theorem uZ(a:AS Int Ct)(k:Int):(a.get k).held=a.held:=by
 unfold Ca.AS.get
 split
 · rfl
 · split<;>rfl
theorem IB{l:List (Int×Ct)}{k:Int}{c:Ct}(h:Ca.dr l k=some c):(k,c)∈l:=by
 unfold Ca.dr at h
 cases hq:l.find? fun x=>decide (x.1=k)with
 | none=>rw [hq]at h;cases h
 | some x=>
   rw [hq]at h
   have h1:=List.find?_some hq
   have h2:=List.mem_of_find?_eq_some hq
   simp at h h1
   rw [<-h1,<-h]
   exact h2
theorem ml(a:AS Int Ct)(k:Int): ∀x∈(a.get k).clean,x∈a.clean:=by
 intro x hx
 unfold Ca.AS.get at hx
 split at hx
 · exact hx
 · split at hx
   · rename_i c hc
     simp only [List.mem_cons]at hx
     rcases hx with e| e
     · rw [e];exact IB hc
     · exact(List.mem_filter.1 e).1
   · exact hx
theorem SK.cache{w2 w3:World}{base:Nat}{S:au}(h:SK w2 base S){F':List Nat}{N':Nat}{a':AS Int Ct}(hC:Ca.CA w3 base F' S.pc N' a')(hF:Fr S.FC w2 w3)(hG:Gr w2 S.FC F')(gH: ∀x∈a'.clean,x∈S.a.clean)(hh:a'.held=S.a.held):
   SK w3 base {S with FC:=F',N:=N',a:=a'}:=by
 have hold2: ∀k,(k=S.g\/k=S.st\/k∈S.F\/k∈S.FC\/S.sv.ownBlock=some k\/k∈S.lb)->base<=k/\k<w2.heap.size:=fun k q=>h.dG q
 have hl: ∀k∈S.lb,w3.heap[k]? =w2.heap[k]? :=fun k q=>hF.block k (hold2 k (by simp [q])).2 (fun z=>h.a3 k z q)
 refine⟨h.da.of_heap fun k q=>hF.block k (hold2 k (by simp [q])).2 (h.a1 k q),(hF.block S.g h.BG h.kE.2.1).trans h.fk,hC,(hF.block S.st h.iW h.ct.2.2.1).trans h.sk,cZ h.so fun k e=>hF.block k (hold2 k (by simp [e])).2 (h.dE e).2.2.2.1,fun k q=>⟨(h.lb k q).1,?_⟩,h.cl,fun j hj=>(h.cv j hj).to (fun k q=>q) hl,fun x hx=>?_,hh.trans h.hd,fun k hk q=>?_,h.a2,fun k hk q=>?_,h.bg,h.bs,h.bp⟩
 · obtain⟨cs,hc⟩:=(h.lb k q).2
   exact⟨cs,(hl k q).trans hc⟩
 · obtain⟨v,h1,h2⟩:=h.ck x (gH x hx)
   exact⟨v,h1.to (fun k q=>q) hl,h2⟩
 · rcases hG k q with z| z
   · exact h.a1 k hk z
   · have:=(hold2 k (by simp [hk])).2;omega
 · rcases hG k hk with z| z
   · exact h.a3 k z q
   · have:=(hold2 k (by simp [q])).2;omega
theorem SK.cF{w:World}{base:Nat}{S:au}(h:SK w base S){k:Nat}(hk:k∈S.fp):base<=k/\k<w.heap.size:=by
 rcases(au.mem S k).1 hk with e| e| e| e| e| e<;>exact h.dG (by simp [e])
theorem xe(w:World)(base:Nat)(S:au)(h:SK w base S)(hlv:ak S.D S.ep=0)(hl:S.aB.length<=100000)(hm:2<=S.s.ma/\S.s.ma<=100000)(hN:S.N<3000000000000000000)(pg:Int)(fY:2<=pg/\pg<S.s.ma+S.aB.length)(c:Ct)(hv:S.a.val pg=some c)(kd:Int)(zs:List Int)(hq:jQ w base S.lb c (kd,zs)):
   Calls Tryz.prog 15 #[.pointer (some ⟨S.st,0,none⟩), .int .i64 pg] w fun e w'=> ∃FC v,e= .returned (.tuple #[.int .i64 kd,v, .int .i64 0])/\Own w' w.heap.size v zs/\(∀k,v.ownBlock=some k->k∉au.fp {S with FC:=FC})/\SK w' base {S with FC:=FC,N:=S.N+1,a:=S.a.get pg}/\Fr S.FC w w'/\Gr w S.FC FC:=by
 have HL:=aa (dn w base S h)
 rw [hlv]at HL
 have HA:=aa (fun w1 (q:Below w.heap.size w w1)=>jF w1 base S (h.below q) hl ⟨by omega,by omega⟩ pg)
 rw [decide_eq_true fY]at HA
 have H0:=aa h
 have HH:=aa (fun w1 (q:Below w.heap.size w w1)=>h.below q)
 have HV:=aa hv
 have HQ:=aa hq
 have uI:=aa (show Ca.jU pg from⟨by omega,by omega⟩)
 have mL:=aa hN
 clear h hlv hm hl hN fY hv hq
 go_enter Tryz.func15,Tryz.ntmps15
 go_wp2_with fail
 refine HL.out.mono ?_
 rintro e w1 ⟨rfl,hb1⟩
 have HB1:=aa hb1
 clear hb1 HL
 go_wp2_with fail
 refine(HA.out w1 HB1.out).mono ?_
 rintro e w2 ⟨rfl,hb2⟩
 have HB2:=aa (HB1.out.trans (hb2.mono HB1.out.size))
 clear hb2 HB1 w1 HA
 have c2:=(HH.out w2 HB2.out).c2
 have HG:Hid (Calls Tryz.prog 40 #[.pointer (some ⟨S.pc,0,none⟩), .int .i64 pg] w2 fun x w'=>x= .returned (.tuple #[.agg #[.int .i64 c.kd, .slice c.sp c.n c.c], .bool true])/\Ca.Nx base S.FC S.pc S.N w2 (S.a.get pg) w'):=aa (by
   have:=Ca.yn w2 base S.FC S.pc S.N S.a (HH.out w2 HB2.out).ca pg uI.out (by have:=mL.out;omega)
   rw [HV.out]at this
   exact this)
 go_wp2_with fail
 refine HG.out.mono ?_
 rintro e w3 ⟨rfl,F3,hC3,hF3,hG3⟩
 have HS3:=aa ((HH.out w2 HB2.out).cache hC3 hF3 hG3 (ml S.a pg) (uZ S.a pg))
 have Qe:=aa ((Fr.ba (F:=S.FC) HB2.out).trans hF3 (Gr.refl _ _))
 have VC:Hid (Gr w S.FC F3):=aa (fun k hk=>(hG3 k hk).imp id (fun q=>Nat.le_trans HB2.out.size q))
 have HQ3:Hid (jQ w3 base S.lb c (kd,zs)):=aa (HQ.out.to (fun k q=>q) fun k q=>Qe.out.block k (H0.out.dG (Or.inr (Or.inr (Or.inr (Or.inr (Or.inr q)))))).2 (fun z=>H0.out.a3 k z q))
 clear hC3 hF3 hG3 HG c2 HH HV mL uI
 go_wp2_with fail
 have n0:(w3.alloc (.cells #[.int .i64 c.kd, .slice c.sp c.n c.c] 93)).cell? ⟨w3.heap.size,0,none⟩=some (.int .i64 c.kd):=by rw [cell_of_row _ _ _ _ _ _ (aF w3 _)];rfl
 have n1:(w3.alloc (.cells #[.int .i64 c.kd, .slice c.sp c.n c.c] 93)).cell? ⟨w3.heap.size,1,none⟩=some (.slice c.sp c.n c.c):=by rw [cell_of_row _ _ _ _ _ _ (aF w3 _)];rfl
 have IC:w3.heap.size<(w3.alloc (.cells #[.int .i64 c.kd, .slice c.sp c.n c.c] 93)).heap.size:=by simp
 have HS4:=aa (HS3.out.below (aq w3 (.cells #[.int .i64 c.kd, .slice c.sp c.n c.c] 93)))
 have HQ4:Hid (jQ (w3.alloc (.cells #[.int .i64 c.kd, .slice c.sp c.n c.c] 93)) base S.lb c (kd,zs)):=aa (HQ3.out.to (fun k q=>q) fun k q=>(aq w3 _).block k (HS3.out.dG (Or.inr (Or.inr (Or.inr (Or.inr (Or.inr q)))))).2)
 have HFF4:=aa (Qe.out.tail (F':=S.FC) (aq w3 (.cells #[.int .i64 c.kd, .slice c.sp c.n c.c] 93)))
 have Et:=aa (show c.kd=kd from HQ.out.kd)
 clear HS3 HQ3 Qe HQ
 generalize w3.alloc (.cells #[.int .i64 c.kd, .slice c.sp c.n c.c] 93)=W at*
 have Qf:Hid (w.heap.size<=W.heap.size):=aa HFF4.out.size
 have Qg:Hid (∀w',Below W.heap.size W w'->Calls Tryz.prog 37 #[.slice c.sp c.n c.c] w' fun e w5=> ∃v,e= .returned v/\Own w5 w'.heap.size v zs/\Below w'.heap.size w' w5):=aa (fun w' q=>by
   have hq:=HQ4.out.to (w1:=w') (fun k q=>q) fun k z=>q.block k (HS4.out.dG (Or.inr (Or.inr (Or.inr (Or.inr (Or.inr z)))))).2
   obtain⟨sp,cap,e,hS,hn⟩:=hq.ow.form
   have hle:=hq.le
   obtain⟨e1,e2,e3⟩:=Value.slice.inj e
   subst e1
   subst e3
   rw [e2]
   exact qM w' zs c.sp c.c hS hn (by show zs.length<=1000;have:zs.length<=246:=hle;omega))
 refine wp_region_noPanic ?_
 refine wp_region_held_drew (S:=fun w'=>Below W.heap.size W w') (by kernel_rfl) (Below.refl _ _).drew (fun hHeld=>?_)
 refine ai 0 (.pointer (some ⟨w3.heap.size,0,none⟩)) rfl hHeld ?_
 try go_frame
 refine ai 2 (.pointer (some ⟨w3.heap.size,1,none⟩)) rfl hHeld ?_
 try go_frame
 refine aV 1 (.int .i64 c.kd) rfl (yA (by intro w hS;have hc:=(hS.cell (p:=⟨w3.heap.size,0,none⟩) IC).trans n0;go_simp)) hHeld ?_
 try go_frame
 refine aV 3 (.slice c.sp c.n c.c) rfl (yA (by intro w hS;have hc:=(hS.cell (p:=⟨w3.heap.size,1,none⟩) IC).trans n1;go_simp)) hHeld ?_
 try go_frame
 refine bR 4 rfl (fun K hK=>?_)
 go_simp
 go_at_call 37
 refine(Qg.out _ hHeld).mono ?_
 rintro e w5 ⟨v5,rfl,hO5,hb5⟩
 obtain⟨s5,c5,hv5,_,_⟩:=hO5.form
 subst hv5
 have HO5:=aa hO5
 have HB5:=aa hb5
 have ID:=aa hHeld
 clear hO5
 go_wp2_with fail
 refine hK.out _ _ (hHeld.trans (hb5.mono hHeld.size)) ?_
 clear hK K hHeld
 intro hHeld
 clear hb5
 try go_frame
 refine ai 5 (.int .i64 c.kd) rfl hHeld ?_
 try go_frame
 refine ai 6 (.slice s5 zs.length c5) rfl hHeld ?_
 try go_frame
 refine ai 7 (.int IntKind.i64 0) rfl hHeld ?_
 try go_frame
 refine dY ?_
 have HB6:=aa hHeld
 clear hHeld
 go_wp2
 go_ret3
 exact⟨F3, .slice s5 zs.length c5,by rw [Et.out];rfl,HO5.out.base (Nat.le_trans Qf.out ID.out.size),(fun k e q=>by have h1:=(aH HO5.out k e).1;have h2:=ID.out.size;have h3:=(HS4.out.cF q).2;omega),HS4.out.below HB6.out,HFF4.out.tail (F':=S.FC) HB6.out,VC.out⟩
theorem IE(w:World)(base:Nat)(S:au)(h:SK w base S)(hlv:ak S.D S.ep=0)(hl:S.aB.length<=100000)(hm:2<=S.s.ma/\S.s.ma<=100000)(hN:S.N<3000000000000000000)(pg:Int)(fY:2<=pg/\pg<S.s.ma+S.aB.length)(c:Ct)(hv:S.a.val pg=some c)(kd:Int)(zs:List Int)(hq:jQ w base S.lb c (kd,zs)):
   Calls Tryz.prog 15 #[.pointer (some ⟨S.st,0,none⟩), .int .i64 pg] w fun e w'=> ∃FC v,e= .returned (.tuple #[.int .i64 kd,v, .int .i64 0])/\Own w' w.heap.size v zs/\SK w' base {S with FC:=FC,N:=S.N+1,a:=S.a.get pg}/\Fr S.FC w w'/\Gr w S.FC FC:=
 (xe w base S h hlv hl hm hN pg fY c hv kd zs hq).mono fun e w' ⟨FC,v,a,b,_,c⟩=>⟨FC,v,a,b,c⟩
theorem Dv(w:World)(E Q:Nat)(u:FrameMode)(hE:w.cell? ⟨E,0,none⟩=some (.int .i64 0)):
   CallsD Tryz.prog 97 #[.pointer (some ⟨E,0,none⟩), .pointer (some ⟨Q,0,none⟩)] u w fun e u' w'=>u'=u/\(e= .returned (.tuple #[])/\w'=w):=by
 go_enter_d Tryz.func97,Tryz.ntmps97
 go_wp2
 go_end0
 exact⟨rfl,rfl⟩
theorem sW(w:World)(base:Nat)(F:List Nat)(p:Nat)(D:DS)(h:DA w base F p D)(g:Nat)(s:aD)(nx ep:Int)(hf:FK w g p s nx ep)(E Q st:Nat)(u:FrameMode)(x:Int)(hx:x≠0)(hE:w.cell? ⟨E,0,none⟩=some (.int .i64 x))(hQ:w.cell? ⟨Q,0,none⟩=some (.pointer (some ⟨st,0,none⟩)))(hst:w.cell? ⟨st,0,none⟩=some (.pointer (some ⟨g,0,none⟩))):
   CallsD Tryz.prog 97 #[.pointer (some ⟨E,0,none⟩), .pointer (some ⟨Q,0,none⟩)] u w fun e u' w'=>u'=u/\(e= .returned (.tuple #[])/\DA w' base F p D/\FK w' g p s s.ma ep/\Fr (g::F) w w'):=by
 have HF:=aa (wN w base F p D h g s nx ep hf)
 have hx2:(x !=0)=true:=by simpa using hx
 clear h hf hx
 go_enter_d Tryz.func97,Tryz.ntmps97
 go_wp2_with fail
 refine HF.out.mono ?_
 rintro e w1 ⟨rfl,hD,hK,hR⟩
 have HD:=aa hD
 have HK:=aa hK
 have HR:=aa hR
 clear hD hK hR HF
 go_wp2
 go_end0
 exact⟨rfl,HD.out,HK.out,HR.out⟩
def bW(D:DS)(m:Nat):List (Int×List Int)->DS
 | []=>D
 | v::r=>bW (D.wr ⟨m,cy v.1 m v.2⟩) (m+1) r
theorem sX: ∀(l:List (Int×List Int)) (D:DS) (m:Nat) (v:Int×List Int),bW D m (l++ [v])=(bW D m l).wr ⟨m+l.length,cy v.1 (m+l.length:Nat) v.2⟩
 | [],D,m,v=>by simp [bW]
 | x::l,D,m,v=>by
   simp only [List.cons_append,bW,sX l _ (m+1) v,List.length_cons]
   rw [show m+1+l.length=m+(l.length+1) by omega]
theorem xh(l:List (Int×List Int))(i:Nat)(h:i<l.length):l.take (i+1)=l.take i++ [l.getD i (0,[])]:=by
 rw [List.take_succ_eq_append_getElem h,List.getD_eq_getElem?_getD,List.getElem?_eq_getElem h];rfl
structure yq (W:World) (base:Nat) (S:au) (m:Nat) (i:Nat) (D':DS) (F':List Nat) (wr:World):Prop where
 da:DA wr base F' S.p D'
 fk:FK wr S.g S.p S.s (m+i:Nat) S.ep
 fr:Fr (S.g::S.F) W wr
 gr:Gr W S.F F'
 lv:ak D' S.ep=0
 eq:D'=bW S.D m (S.vs.take i)
 np:D'.np=S.D.np
 op:D'.ops.length=S.D.ops.length+i
 wc:D'.writes=S.D.writes+i
theorem NX{D:DS}{ep:Int}(h1:D.ag=ep)(h2:D.power=true):ak D ep=0:=by
 unfold ak
 simp [h1,h2]
theorem yq.step{W wr w':World}{base:Nat}{S:au}{m i:Nat}{D':DS}{F' F2:List Nat}(h:yq W base S m i D' F' wr)(hW:SK W base S)(hi:i<S.vs.length)(ha:D'.armed≠1)(ha0:0<=D'.armed)(kd:Int)(zs:List Int)(hv:S.vs.getD i (0,[])=(kd,zs))
   (hd:DA w' base F2 S.p (D'.wr ⟨m+i,cy kd (m+i:Nat) zs⟩)) (hf:FK w' S.g S.p S.s (m+i+1:Nat) S.ep) (fr:Fr (S.g::F') wr w') (gr:Gr wr F' F2):yq W base S m (i+1) (D'.wr ⟨m+i,cy kd (m+i:Nat) zs⟩) F2 w':=by
 obtain⟨e1,e2,e3,e4,e5,e6⟩:=kU D' ⟨m+i,cy kd (m+i:Nat) zs⟩
 obtain⟨l1,l2⟩:=jg h.lv
 have hp:=(ny D' ⟨m+i,cy kd (m+i:Nat) zs⟩ ha0).2.1 ha
 have hl:(S.vs.take i).length=i:=by rw [List.length_take];omega
 refine⟨hd,hf,h.fr.trans fr ?_,h.gr.trans gr h.fr.size,NX (e3.trans l1) (hp.trans l2),?_,?_,?_,?_⟩
 · intro k hk
   rcases List.mem_cons.1 hk with e| e
   · exact Or.inl (e▸List.mem_cons_self ..)
   · exact(h.gr k e).imp (fun q=>List.mem_cons_of_mem _ q) id
 · rw [xh _ _ hi,sX,hv,hl,h.eq]
 · have:(D'.wr ⟨m+i,cy kd (m+i:Nat) zs⟩).np=D'.np:=by unfold DS.np;rw [e1]
   rw [this,h.np]
 · rw [e2,List.length_append,h.op];rfl
 · rw [e5,h.wc];push_cast;omega
theorem SK.off{W wr:World}{base:Nat}{S:au}(h:SK W base S)(hf:Fr (S.g::S.F) W wr):
   wr.heap[S.st]? =W.heap[S.st]? /\(∀k,S.sv.ownBlock=some k->wr.heap[k]? =W.heap[k]?)/\(∀k∈S.lb,wr.heap[k]? =W.heap[k]?)/\(∀k∈S.FC,wr.heap[k]? =W.heap[k]?):=by
 refine⟨hf.block S.st h.iW ?_,fun k e=>hf.block k (h.dG (by simp [e])).2 ?_,fun k e=>hf.block k (h.dG (by simp [e])).2 ?_,fun k e=>hf.block k (h.dG (by simp [e])).2 ?_⟩
 · intro q
   rcases List.mem_cons.1 q with z| z
   · exact h.ct.1 z
   · exact h.ct.2.1 z
 · intro q
   rcases List.mem_cons.1 q with z| z
   · exact(h.dE e).1 z
   · exact(h.dE e).2.2.1 z
 · intro q
   rcases List.mem_cons.1 q with z| z
   · exact h.kE.2.2 (z▸e)
   · exact h.a2 k z e
 · intro q
   rcases List.mem_cons.1 q with z| z
   · exact h.kE.2.1 (z▸e)
   · exact h.a1 k z e
theorem Eu: ∀(l:List Ct) (i:Nat),i<l.length-> ∀j v,(av (l.getD i ct0))[j]? =some v->(l.flatMap av)[i*2+j]? =some v
 | [],i,h,j,v,hv=>by simp at h
 | x::l,0,h,j,v,hv=>by
   have hj:j<2:=by
     have:=(List.getElem?_eq_some_iff.1 hv).1
     simpa [av]using this
   rw [List.flatMap_cons,Nat.zero_mul,Nat.zero_add,List.getElem?_append_left (by simpa [av]using hj)]
   simpa using hv
 | x::l,i+1,h,j,v,hv=>by
   have:=Eu l i (by simpa using h) j v (by simpa using hv)
   rw [List.flatMap_cons,show(i+1)*2+j=(i*2+j)+2 by omega,List.getElem?_append_right (by simp [av])]
   simpa [av]using this
theorem SK.row{W:World}{base:Nat}{S:au}(h:SK W base S)(i:Nat)(hi:i<S.aB.length): ∃b cap,S.sv= .slice (some ⟨b,0,none⟩) S.aB.length cap/\S.sv.ownBlock=some b/\W.rangeAt b (i*2) (av (S.aB.getD i ct0)):=by
 have hc:=h.so
 rcases hc.2 with⟨_,h0⟩| ⟨g,cap,cur,e,hg,hh,_⟩
 · have:S.aB.length=0:=by first| exact h0| omega
   omega
 · refine⟨g,cap,e,by rw [e];rfl,fun j v hv=>?_⟩
   have:=hc.cells (g:=g) (by rw [e];rfl) (i*2+j) v (Eu _ i hi j v hv)
   rw [Addr.add_mid,Nat.zero_add]at this
   exact this
end Go.Proofs.YtpdakmhnnkaafaaGreat

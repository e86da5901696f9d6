import Derived.Maps.RangeWalk
import Derived.Test.YtpdakmhnnkaafaaGreatR14
namespace Go.Proofs.YtpdakmhnnkaafaaGreat
set_option maxRecDepth 100000
set_option maxHeartbeats 40000000
set_option linter.unusedVariables false
set_option linter.unusedSimpArgs false
open Go.RowKit
open Go.Proofs.YtpdakmhnnkaafaaGreat.Ca (Ct ct0 av bV AS)
attribute [local go_sem ↓] Go.wp_at_zero Go.wp_at_succ
theorem ym(a:Act)(o:Oper)(w:World)(ho:o.op= .alloc 93):(execOp a.eval o).run Tryz.prog w= .ok (.value (.pointer (some ⟨w.heap.size,0,none⟩))) (w.alloc (.cells (av ct0).toArray 93)):=by
 unfold execOp
 rw [ho]
 kernel_rfl
def xj(S:au)(m:Nat)(hd:Int)(c:Int)(D':DS)(s':aD):Prop:=
 (∃i,i<S.vs.length/\(bW S.D m (S.vs.take i)).armed=1/\ak (bW S.D m (S.vs.take i)) S.ep=0/\c=2/\D'=bW S.D m (S.vs.take (i+1))/\s'=S.s)∨
 (ak (bW S.D m S.vs) S.ep=0/\c=(aX (bW S.D m S.vs) [.sync, .lay ⟨S.s.wd,S.s.ge+1,(m+S.vs.length:Nat),hd,S.s.pg⟩ 0 0, .sync]).2/\D'=(aX (bW S.D m S.vs) [.sync, .lay ⟨S.s.wd,S.s.ge+1,(m+S.vs.length:Nat),hd,S.s.pg⟩ 0 0, .sync]).1/\s'=if c=0 then⟨S.s.wd,S.s.ge+1,(m+S.vs.length:Nat),hd,S.s.pg⟩else S.s)
theorem BH(w:World)(base:Nat)(S:au)(h:SK w base S)(hlv:ak S.D S.ep=0)(hl:S.aB.length<=100000)(m:Nat)(hm:S.s.ma=m)(eY:S.nx=m)(hm2:2<=m)(gI:m+S.vs.length<=S.D.np)(hd:Int)(hh:hd=0\/(2<=hd/\hd<(m+S.vs.length:Nat)))(hge:0<=S.s.ge/\S.s.ge<1099511627776)(hval:aJ ⟨S.s.wd,S.s.ge+1,(m+S.vs.length:Nat),hd,S.s.pg⟩=true)(iU:ak (bW S.D m S.vs) S.ep=0->mN (bW S.D m S.vs) 3)(mA:S.D.ops.length+S.vs.length<400000000000)(hwr:S.D.writes+S.vs.length<4000000000000000000):
   Calls Tryz.prog 77 #[.pointer (some ⟨S.st,0,none⟩), .int .i64 hd] w fun e w'=> ∃c D' s' F',e= .returned (.int .i64 c)/\xj S m hd c D' s'/\DA w' base F' S.p D'/\FK w' S.g S.p s' s'.ma S.ep/\Fr (S.g::S.F) w w'/\Gr w S.F F':=by
 have Pw: ∀(fn:Fn) (first cap:Array Value) (w:World),(Instr.makeFunc fn first cap).run Tryz.prog w= .ok (.func fn first cap) w:=fun _ _ _ _=>rfl
 obtain⟨kF,kG,xd⟩:=h.Iu
 have qc:=aa (fun k q=>(h.dG (k:=k) q).2)
 have hB:Below w.heap.size w ((w.alloc (.cells #[.pointer (some ⟨S.st,0,none⟩)] 60)).alloc (.cells #[.int .i64 0] 57)):=((Below.refl w.heap.size w).alloc (Nat.le_refl _) _).alloc (by simp) _
 have hS1:=h.below hB
 have c3:=hS1.c3
 rw [xd]at c3
 have HS1:=aa hS1
 have HE:=aa xd
 have HB:=aa hB
 have hq0:((w.alloc (.cells #[.pointer (some ⟨S.st,0,none⟩)] 60)).alloc (.cells #[.int .i64 0] 57)).heap[w.heap.size]? =some (.cells #[.pointer (some ⟨S.st,0,none⟩)] 60 (0,0)):=hold (aF w _)
 have hq1:((w.alloc (.cells #[.pointer (some ⟨S.st,0,none⟩)] 60)).alloc (.cells #[.int .i64 0] 57)).heap[w.heap.size+1]? =some (.cells #[.int .i64 0] 57 (0,0)):=by
   have:=aF (w.alloc (.cells #[.pointer (some ⟨S.st,0,none⟩)] 60)) (.cells #[.int .i64 0] 57)
   simpa using this
 have HQ0:=aa hq0
 have HQ1:=aa hq1
 have XT:(S.aB.length:Int)<=100000:=by omega
 have HP0:Hid (yq ((w.alloc (.cells #[.pointer (some ⟨S.st,0,none⟩)] 60)).alloc (.cells #[.int .i64 0] 57)) base S m 0 S.D S.F ((w.alloc (.cells #[.pointer (some ⟨S.st,0,none⟩)] 60)).alloc (.cells #[.int .i64 0] 57))):=aa ⟨hS1.da,by rw [<-eY];exact hS1.fk,Fr.refl _ _,Gr.refl _ _,hlv,rfl,rfl,rfl,by simp⟩
 have BI:=aa h.cl
 clear h hS1 xd hB hq0 hq1
 generalize hn:S.aB.length=n at*
 have HN:=aa hn
 clear hn
 have XU:=ym
 go_enter_defers Tryz.func77,Tryz.ntmps77
 go_wp2
 generalize hW:(w.alloc (.cells #[.pointer (some ⟨S.st,0,none⟩)] 60)).alloc (.cells #[.int .i64 0] 57)=W at*
 clear hW c3
 go_loopw [15] (fun iv wr=> ∃(i:Nat) (D':DS) (F':List Nat),iv= .int .i64 i/\i<=n/\yq W base S m i D' F' wr) (fun iv _=>n-(intOf iv).toNat)
 case atStart=>exact⟨0,S.D,S.F,rfl,Nat.zero_le _,HP0.out⟩
 case round=>
   obtain⟨i,D',F',rfl,hin,hPI⟩:=hrel
   have q0:wr.heap[w.heap.size]? =some (.cells #[.pointer (some ⟨S.st,0,none⟩)] 60 (0,0)):=(hPI.fr.block _ (aC HQ0.out) (fun q=>by
     have:=qc.out w.heap.size (by rcases List.mem_cons.1 q with z| z<;>simp [z])
     omega)).trans HQ0.out
   have q1:wr.heap[w.heap.size+1]? =some (.cells #[.int .i64 0] 57 (0,0)):=(hPI.fr.block _ (aC HQ1.out) (fun q=>by
     have:=qc.out (w.heap.size+1) (by rcases List.mem_cons.1 q with z| z<;>simp [z])
     omega)).trans HQ1.out
   have o1:=(HS1.out.off hPI.fr)
   have t0:wr.cell? ⟨S.st,0,none⟩=some (.pointer (some ⟨S.g,0,none⟩)):=(World.cell?_of_block (a:=⟨S.st,0,none⟩) o1.1).trans HS1.out.c0
   have x0:=cell_of_one q0
   have fK:=aa hPI
   have HO1:=aa o1
   have Hq0:=aa q0
   have Hq1:=aa q1
   clear hPI o1 q0 q1
   by_cases hlt:i<n
   · obtain⟨b,cap,eb1,eb2,hrow⟩:=HS1.out.row i (by rw [HN.out];exact hlt)
     rw [HE.out,HN.out]at eb1
     cases eb1
     have hrow2:=jT hrow (HO1.out.2.1 b eb2)
     have Mv:=aa hrow2
     clear hrow hrow2 eb2
     generalize hc:S.aB.getD i ct0=c at*
     have HC:=aa hc
     clear hc
     have hli2:(i:Int)<n:=by omega
     have oB:(Tryz.prog.info? 93).map (·.size)=some (av c).length:=by
       obtain⟨ic,hi1,hi2⟩:=kZ
       rw [hi1];show some ic.size=_;rw [hi2];rfl
     have SN:=aa oB
     clear oB
     have rA:=aF wr (.cells (av ct0).toArray 93)
     have VD:((av c).toArray.all fun v=>v.oneCell')=true:=all_oneCell_toArray (qO c)
     go_wp2_with (first
       | refine dQ (by rfl) 93 (.tmp 17) (by rfl) b (i*2) (by rfl) (av c) _ (by exact Mv.out) Tryz.underlying93 rfl (by exact SN.out) ?_
       | refine wpList_store_row (by rfl) 93 (.tmp 6) (.tmp 18) (by rfl) wr.heap.size (av c).toArray (by rfl) (by rfl) 93 (av ct0).toArray (by exact rA) (by exact SN.out) rfl (all_oneCell_toArray (qO c)) ?_)
     have SP:=below_setRow (aq wr (.cells (av ct0).toArray 93)) (Nat.le_refl _) (av c).toArray
     have rC:=setRow_heap _ _ _ (av c).toArray _ _ rA
     have Qh:Hid (Below wr.heap.size wr ((wr.alloc (.cells #[.int .i64 0, .slice none 0 0] 93)).setRow wr.heap.size (av c).toArray)):=aa SP
     have Qi:Hid (((wr.alloc (.cells #[.int .i64 0, .slice none 0 0] 93)).setRow wr.heap.size (av c).toArray).heap[wr.heap.size]? =some (.cells (av c).toArray 93 (0,0))):=aa rC
     clear SP rC rA VD
     generalize (wr.alloc (.cells #[.int .i64 0, .slice none 0 0] 93)).setRow wr.heap.size (av c).toArray=WC at*
     have SQ:w.heap.size<wr.heap.size:=aC Hq0.out
     have hst:S.st<wr.heap.size:=World.block_lt_of_cell? wr _ t0
     have y0:WC.drew.cell? ⟨w.heap.size,0,none⟩=some (.pointer (some ⟨S.st,0,none⟩)):=(Qh.out.cell (p:=⟨w.heap.size,0,none⟩) SQ).trans x0
     have y1:WC.drew.cell? ⟨S.st,0,none⟩=some (.pointer (some ⟨S.g,0,none⟩)):=(Qh.out.cell (p:=⟨S.st,0,none⟩) hst).trans t0
     have y2:WC.drew.cell? ⟨wr.heap.size,0,none⟩=some (.int .i64 c.kd):=by
       rw [show WC.drew.cell? ⟨wr.heap.size,0,none⟩=WC.cell? ⟨wr.heap.size,0,none⟩from rfl,cell_of_row _ _ _ _ _ _ Qi.out];rfl
     have y3:WC.drew.cell? ⟨wr.heap.size,1,none⟩=some (.slice c.sp c.n c.c):=by
       rw [show WC.drew.cell? ⟨wr.heap.size,1,none⟩=WC.cell? ⟨wr.heap.size,1,none⟩from rfl,cell_of_row _ _ _ _ _ _ Qi.out];rfl
     have hcv:=HS1.out.cv i (by rw [HN.out];exact hlt)
     rw [HC.out]at hcv
     obtain⟨⟨kd,zs⟩,Qj⟩: ∃v,S.vs.getD i (0,[])=v:=⟨_,rfl⟩
     rw [Qj]at hcv
     have zu:Hid (Below wr.heap.size wr WC.drew):=aa Qh.out.drew
     have hcv2:=hcv.to (w1:=WC.drew) (fun k q=>q) fun k q=>(zu.out.block k (Nat.lt_of_lt_of_le (HS1.out.dG (by simp [q])).2 fK.out.fr.size)).trans (HO1.out.2.2.1 k q)
     obtain⟨XV,Xi,ex,SR,hnx2⟩:=hcv2.ow.form
     obtain⟨e1,e2,e3⟩:=Value.slice.inj ex
     subst e1
     subst e3
     have Qk:c.kd=kd:=hcv2.kd
     have hA:=zl WC.drew base F' S.p D' (fK.out.da.below zu.out) (Nat.le_trans HS1.out.base (Nat.le_trans fK.out.fr.size zu.out.size)) S.g S.s S.ep (m+i) (fK.out.fk.below zu.out) fK.out.lv ⟨by omega,by have:=fK.out.np;have:=BI.out;have:=HN.out;omega⟩ c.kd ((gQ _).2 (by rw [Qk];exact hcv2.kk)) zs hcv2.by8 hcv2.le c.sp c.c SR (by have:=fK.out.op;have:=BI.out;have:=HN.out;omega) (by have:=fK.out.wc;have:=BI.out;have:=HN.out;omega)
     rw [<-show c.n=zs.length from e2]at hA
     have wm:=aa hA
     have Ql:Hid (∀w6,Fr (S.g::F') WC.drew w6->w6.cell? ⟨w.heap.size,0,none⟩=some (.pointer (some ⟨S.st,0,none⟩))/\w6.cell? ⟨S.st,0,none⟩=some (.pointer (some ⟨S.g,0,none⟩))/\w6.cell? ⟨wr.heap.size,0,none⟩=some (.int .i64 c.kd)/\w6.cell? ⟨wr.heap.size,1,none⟩=some (.slice c.sp c.n c.c)/\w6.heap[w.heap.size+1]? =some (.cells #[.int .i64 0] 57 (0,0))):=aa (fun w6 hF=>by
       have hF': ∀k∈S.g::F',k<wr.heap.size/\(k<w.heap.size\/W.heap.size<=k):=fun k hk=>by
         rcases List.mem_cons.1 hk with z| z
         · exact⟨z▸aC fK.out.fk,Or.inl (qc.out k (by simp [z]))⟩
         · exact⟨(fK.out.da.lt k z).2,(fK.out.gr k z).imp (fun q=>qc.out k (by simp [q])) id⟩
       have hW0:=aC HQ0.out
       have hW1:=aC HQ1.out
       have n0:w.heap.size∉S.g::F':=fun q=>by have:=(hF' _ q).2;omega
       have n1:w.heap.size+1∉S.g::F':=fun q=>by have:=(hF' _ q).2;omega
       have n2:wr.heap.size∉S.g::F':=fun q=>by have:=(hF' _ q).1;omega
       have n3:S.st∉S.g::F':=fun q=>by
         rcases List.mem_cons.1 q with z| z
         · exact HS1.out.ct.1 z
         · rcases fK.out.gr _ z with y| y
           · exact HS1.out.ct.2.1 y
           · have:=HS1.out.iW;omega
       have FQ:wr.heap.size<WC.drew.heap.size:=aC Qi.out
       exact⟨(World.cell?_of_block (a:=⟨w.heap.size,0,none⟩) (hF.block _ (Nat.lt_trans SQ FQ) n0)).trans y0,(World.cell?_of_block (a:=⟨S.st,0,none⟩) (hF.block _ (Nat.lt_trans hst FQ) n3)).trans y1,(World.cell?_of_block (a:=⟨wr.heap.size,0,none⟩) (hF.block _ FQ n2)).trans y2,(World.cell?_of_block (a:=⟨wr.heap.size,1,none⟩) (hF.block _ FQ n2)).trans y3,(hF.block _ (by have:=aC Hq1.out;omega) n1).trans ((zu.out.block _ (aC Hq1.out)).trans Hq1.out)⟩)
     have SU:=aa Qj
     have Et:=aa Qk
     clear hA hcv hcv2 SR hnx2 ex e2 Qj Qk x0 t0
     try simp only [Act.put]
     by_cases ha:D'.armed=1
     · have mK:=aa ha
       have sY:Hid (Calls Tryz.prog 42 #[.pointer (some ⟨S.g,0,none⟩), .int .i64 c.kd, .slice c.sp c.n c.c] WC.drew fun e w'=>e= .returned (.tuple #[.int .i64 0, .int .i64 2])/\nz base F' S.p S.g WC.drew (D'.wr ⟨m+i,cy c.kd (m+i:Nat) zs⟩) S.s (m+i:Nat) S.ep w'):=aa (wm.out.mono fun e w' q=>q.2 mK.out)
       have kC:Hid (∀w6,nz base F' S.p S.g WC.drew (D'.wr ⟨m+i,cy c.kd (m+i:Nat) zs⟩) S.s (m+i:Nat) S.ep w6->w6.cell? ⟨w.heap.size,0,none⟩=some (.pointer (some ⟨S.st,0,none⟩))/\w6.cell? ⟨S.st,0,none⟩=some (.pointer (some ⟨S.g,0,none⟩))/\w6.cell? ⟨wr.heap.size,0,none⟩=some (.int .i64 c.kd)/\w6.cell? ⟨wr.heap.size,1,none⟩=some (.slice c.sp c.n c.c)):=aa (fun w6 q=>by obtain⟨F2,_,_,f,_⟩:=q;obtain⟨z1,z2,z3,z4,_⟩:=Ql.out w6 f;exact⟨z1,z2,z3,z4⟩)
       clear ha wm
       refine wp_region_noPanic ?_
       refine wp_region_held_drew (S:=fun w'=>w'.cell? ⟨w.heap.size,0,none⟩=some (.pointer (some ⟨S.st,0,none⟩))/\w'.cell? ⟨S.st,0,none⟩=some (.pointer (some ⟨S.g,0,none⟩))/\w'.cell? ⟨wr.heap.size,0,none⟩=some (.int .i64 c.kd)/\w'.cell? ⟨wr.heap.size,1,none⟩=some (.slice c.sp c.n c.c)) (by kernel_rfl) ⟨y0,y1,y2,y3⟩ (fun hHeld=>?_)
       refine aV 0 (.pointer (some ⟨S.st,0,none⟩)) rfl (yA (by intro w hS;have hc:=hS.1;go_simp)) hHeld ?_
       try go_frame
       refine ai 4 (.pointer (some ⟨wr.heap.size,0,none⟩)) rfl hHeld ?_
       try go_frame
       refine ai 6 (.pointer (some ⟨wr.heap.size,1,none⟩)) rfl hHeld ?_
       try go_frame
       refine ai 1 (.pointer (some ⟨S.st,0,none⟩)) rfl hHeld ?_
       try go_frame
       refine aV 5 (.int .i64 c.kd) rfl (yA (by intro w hS;have hc:=hS.2.2.1;go_simp)) hHeld ?_
       try go_frame
       refine aV 7 (.slice c.sp c.n c.c) rfl (yA (by intro w hS;have hc:=hS.2.2.2;go_simp)) hHeld ?_
       try go_frame
       refine ai 2 (.pointer (some ⟨S.st,0,none⟩)) rfl hHeld ?_
       try go_frame
       refine aV 3 (.pointer (some ⟨S.g,0,none⟩)) rfl (yA (by intro w hS;have hc:=hS.2.1;go_simp)) hHeld ?_
       try go_frame
       refine bR 8 rfl (fun K hK=>?_)
       go_simp
       go_at_call 42
       refine(sY.out).mono ?_
       rintro e w6 ⟨rfl,hX6⟩
       go_wp2_with fail
       refine hK.out _ _ (kC.out w6 hX6) ?_
       clear hK K hHeld
       intro hHeld
       try go_frame
       refine ai 9 (.tuple #[.int .i64 0, .int .i64 2]) rfl hHeld ?_
       try go_frame
       refine ai 10 (.int .i64 0) rfl hHeld ?_
       try go_frame
       refine ai 11 (.int .i64 2) rfl hHeld ?_
       try go_frame
       refine ai 12 (.int .i64 0) rfl hHeld ?_
       try go_frame
       refine ai 13 (.int .i64 2) rfl hHeld ?_
       try go_frame
       refine dY ?_
       clear hHeld
       obtain⟨F2,hD6,hf6,hr6,hg6⟩:=hX6
       obtain⟨z0,z1,_,_,z5⟩:=Ql.out w6 hr6
       have e5:=cell_of_one z5
       have f5:w6.frozen? ⟨w.heap.size+1,0,none⟩=false:=frozen_of_row _ _ _ _ _ z5
       have HZ0:=aa z0
       have HZ1:=aa z1
       have HZ5:=aa z5
       have HD6:=aa hD6
       have Hf6:=aa hf6
       have Hr6:=aa hr6
       have Hg6:=aa hg6
       clear hD6 hf6 hr6 hg6 z0 z1 z5 kC sY
       go_wp2
       have IG:(w6.setCell ⟨w.heap.size+1,0,none⟩ (.int .i64 2)).heap[w.heap.size+1]? =some (.cells #[.int .i64 2] 57 (0,0)):=by rw [heap_setCell_same _ _ _ _ _ _ HZ5.out];rfl
       have pI: ∀k,k≠w.heap.size+1->(w6.setCell ⟨w.heap.size+1,0,none⟩ (.int .i64 2)).heap[k]? =w6.heap[k]? :=fun k hk=>heap_setCell_other _ ⟨w.heap.size+1,0,none⟩ k _ hk
       have hE7:=cell_of_one IG
       have hQ7:(w6.setCell ⟨w.heap.size+1,0,none⟩ (.int .i64 2)).cell? ⟨w.heap.size,0,none⟩=some (.pointer (some ⟨S.st,0,none⟩)):=(World.cell?_of_block (a:=⟨w.heap.size,0,none⟩) (pI w.heap.size (by omega))).trans HZ0.out
       have hst7:(w6.setCell ⟨w.heap.size+1,0,none⟩ (.int .i64 2)).cell? ⟨S.st,0,none⟩=some (.pointer (some ⟨S.g,0,none⟩)):=(World.cell?_of_block (a:=⟨S.st,0,none⟩) (pI S.st (by have:=qc.out S.st (by simp);omega))).trans HZ1.out
       refine leaves_cons (f:=97) (args:= #[.pointer (some ⟨w.heap.size+1,0,none⟩), .pointer (some ⟨w.heap.size,0,none⟩)]) (by simp) (by simp [go_sem]) ?_
       refine(sW _ base F2 S.p _ (HD6.out.qI ?_ 0 _) S.g S.s (m+i:Nat) S.ep ((pI _ ?_).trans Hf6.out) (w.heap.size+1) w.heap.size S.st .returning 2 (by decide) hE7 hQ7 hst7).mono ?_
       · exact HD6.out.cS HZ5.out (by decide) (by decide) (by decide)
       · have:=qc.out S.g (by simp);omega
       rintro e u' w8 ⟨rfl,rfl,hD8,hK8,hR8⟩
       have hE6:w.heap.size+1∉S.g::F2:=fun q=>by
         rcases List.mem_cons.1 q with z| z
         · have:=qc.out S.g (by simp);omega
         · exact HD6.out.cS HZ5.out (by decide) (by decide) (by decide) z
       have hE8:w8.cell? ⟨w.heap.size+1,0,none⟩=some (.int .i64 2):=(World.cell?_of_block (a:=⟨w.heap.size+1,0,none⟩) (hR8.block (w.heap.size+1) (aC IG) hE6)).trans hE7
       have hW:=HB.out
       have hf1:Fr (S.g::S.F) w WC.drew:=((Fr.ba (F:=S.g::S.F) hW).trans fK.out.fr (Gr.refl _ _)).tail (F':= []) (zu.out)
       have KZ:Gr w (S.g::S.F) (S.g::F'):=fun k hk=>by
         rcases List.mem_cons.1 hk with z| z
         · exact Or.inl (z▸List.mem_cons_self ..)
         · exact(fK.out.gr k z).imp (fun q=>List.mem_cons_of_mem _ q) (fun q=>Nat.le_trans hW.size q)
       have hf2:=hf1.trans Hr6.out KZ
       have hgF2:Gr w S.F F2:=fun k hk=>by
         rcases Hg6.out k hk with z| z
         · exact(fK.out.gr k z).imp id (fun q=>Nat.le_trans hW.size q)
         · exact Or.inr (Nat.le_trans hf1.size z)
       have hf3:Fr (S.g::S.F) w (w6.setCell ⟨w.heap.size+1,0,none⟩ (.int .i64 2)):=⟨hf2.os,hf2.tape,hf2.output,by rw [World.size_setCell];exact hf2.size,fun k hk hn=>(pI k (by omega)).trans (hf2.block k hk hn)⟩
       have hl:(S.vs.take i).length=i:=by rw [List.length_take];have:=BI.out;have:=HN.out;omega
       have SX:i<S.vs.length:=by have:=BI.out;have:=HN.out;omega
       refine⟨.int .i64 2,?_,2,_,S.s,F2,rfl,Or.inl ⟨i,SX,by rw [<-fK.out.eq];exact mK.out,by rw [<-fK.out.eq];exact fK.out.lv,rfl,?_,rfl⟩,hD8,hK8,hf3.trans hR8 ?_,hgF2⟩
       · simp [results,Tryz.results77,go_sem,hE8]
       · rw [xh _ _ SX,sX,SU.out,hl,<-fK.out.eq,Et.out]
       · intro k hk
         rcases List.mem_cons.1 hk with z| z
         · exact Or.inl (z▸List.mem_cons_self ..)
         · exact(hgF2 k z).imp (fun q=>List.mem_cons_of_mem _ q) id
     · have mK:=aa ha
       have sY:Hid (Calls Tryz.prog 42 #[.pointer (some ⟨S.g,0,none⟩), .int .i64 c.kd, .slice c.sp c.n c.c] WC.drew fun e w'=>e= .returned (.tuple #[.int .i64 (m+i:Nat), .int .i64 0])/\nz base F' S.p S.g WC.drew (D'.wr ⟨m+i,cy c.kd (m+i:Nat) zs⟩) S.s (m+i+1:Nat) S.ep w'):=aa (wm.out.mono fun e w' q=>q.1 mK.out)
       have kC:Hid (∀w6,nz base F' S.p S.g WC.drew (D'.wr ⟨m+i,cy c.kd (m+i:Nat) zs⟩) S.s (m+i+1:Nat) S.ep w6->w6.cell? ⟨w.heap.size,0,none⟩=some (.pointer (some ⟨S.st,0,none⟩))/\w6.cell? ⟨S.st,0,none⟩=some (.pointer (some ⟨S.g,0,none⟩))/\w6.cell? ⟨wr.heap.size,0,none⟩=some (.int .i64 c.kd)/\w6.cell? ⟨wr.heap.size,1,none⟩=some (.slice c.sp c.n c.c)):=aa (fun w6 q=>by obtain⟨F2,_,_,f,_⟩:=q;obtain⟨z1,z2,z3,z4,_⟩:=Ql.out w6 f;exact⟨z1,z2,z3,z4⟩)
       have BJ:Hid (∀w6,nz base F' S.p S.g WC.drew (D'.wr ⟨m+i,cy c.kd (m+i:Nat) zs⟩) S.s (m+i+1:Nat) S.ep w6-> ∃(j:Nat) (D2:DS) (F2:List Nat),Value.int .i64 ((i:Int)+1)= .int .i64 j/\j<=n/\yq W base S m j D2 F2 w6):=aa (fun w6 q=>by
         obtain⟨F2,q1,q2,q3,q4⟩:=q
         rw [Et.out]at q1
         refine⟨i+1,_,F2,by push_cast;rfl,by omega,fK.out.step HS1.out (by have:=BI.out;have:=HN.out;omega) mK.out fK.out.da.ok.armed.1 kd zs SU.out q1 q2 ((Fr.ba (F:=S.g::F') zu.out).trans q3 (Gr.refl _ _)) (fun k hk=>(q4 k hk).imp id (fun z=>Nat.le_trans zu.out.size z))⟩)
       clear ha wm
       refine wp_region_noPanic ?_
       refine wp_region_held_drew (S:=fun w'=>w'.cell? ⟨w.heap.size,0,none⟩=some (.pointer (some ⟨S.st,0,none⟩))/\w'.cell? ⟨S.st,0,none⟩=some (.pointer (some ⟨S.g,0,none⟩))/\w'.cell? ⟨wr.heap.size,0,none⟩=some (.int .i64 c.kd)/\w'.cell? ⟨wr.heap.size,1,none⟩=some (.slice c.sp c.n c.c)) (by kernel_rfl) ⟨y0,y1,y2,y3⟩ (fun hHeld=>?_)
       refine aV 0 (.pointer (some ⟨S.st,0,none⟩)) rfl (yA (by intro w hS;have hc:=hS.1;go_simp)) hHeld ?_
       try go_frame
       refine ai 4 (.pointer (some ⟨wr.heap.size,0,none⟩)) rfl hHeld ?_
       try go_frame
       refine ai 6 (.pointer (some ⟨wr.heap.size,1,none⟩)) rfl hHeld ?_
       try go_frame
       refine ai 1 (.pointer (some ⟨S.st,0,none⟩)) rfl hHeld ?_
       try go_frame
       refine aV 5 (.int .i64 c.kd) rfl (yA (by intro w hS;have hc:=hS.2.2.1;go_simp)) hHeld ?_
       try go_frame
       refine aV 7 (.slice c.sp c.n c.c) rfl (yA (by intro w hS;have hc:=hS.2.2.2;go_simp)) hHeld ?_
       try go_frame
       refine ai 2 (.pointer (some ⟨S.st,0,none⟩)) rfl hHeld ?_
       try go_frame
       refine aV 3 (.pointer (some ⟨S.g,0,none⟩)) rfl (yA (by intro w hS;have hc:=hS.2.1;go_simp)) hHeld ?_
       try go_frame
       refine bR 8 rfl (fun K hK=>?_)
       go_simp
       go_at_call 42
       refine(sY.out).mono ?_
       rintro e w6 ⟨rfl,hX6⟩
       go_wp2_with fail
       refine hK.out _ _ (kC.out w6 hX6) ?_
       clear hK K hHeld
       intro hHeld
       try go_frame
       refine ai 9 (.tuple #[.int .i64 (m+i:Nat), .int .i64 0]) rfl hHeld ?_
       try go_frame
       refine ai 10 (.int .i64 (m+i:Nat)) rfl hHeld ?_
       try go_frame
       refine ai 11 (.int .i64 0) rfl hHeld ?_
       try go_frame
       refine ai 12 (.int .i64 (m+i:Nat)) rfl hHeld ?_
       try go_frame
       refine ai 13 (.int .i64 0) rfl hHeld ?_
       try go_frame
       refine dY ?_
       have HX6:=aa hX6
       clear hX6 hHeld kC sY
       go_wp2
       go_roundw
       case rel=>exact BJ.out w6 HX6.out
       case measure=>simp [intOf];omega
   · have UE:i=n:=by omega
     subst UE
     have Mw:S.vs.length=i:=by have:=BI.out;have:=HN.out;omega
     have oM:S.vs.take i=S.vs:=List.take_of_length_le (by omega)
     have Mx:D'=bW S.D m S.vs:=by rw [<-oM];exact fK.out.eq
     have hge2:=hge
     have II:=aa (Fz wr base F' S.p D' fK.out.da (Nat.le_trans HS1.out.base fK.out.fr.size) S.g S.s (m+i:Nat) S.ep fK.out.fk fK.out.lv hd (by rw [<-Mw];exact hh) hge ⟨S.s.wd,S.s.ge+1,(m+i:Nat),hd,S.s.pg⟩ rfl (by rw [<-Mw];exact hval) (by rw [Mx];exact iU (by rw [<-Mx];exact fK.out.lv)))
     have uE:=aa Mx
     have SY:=aa Mw
     clear Mx Mw oM hge2 hlt
     generalize SZ:aX D' [.sync, .lay ⟨S.s.wd,S.s.ge+1,(m+i:Nat),hd,S.s.pg⟩ 0 0, .sync]=rs at*
     have VF:=aa SZ
     clear SZ
     obtain⟨D2,c2⟩:=rs
     go_wp2_with fail
     refine II.out.mono ?_
     rintro e w6 ⟨rfl,F2,hD6,hf6,hr6,hg6⟩
     have hF': ∀k∈S.g::F',k<wr.heap.size/\(k<w.heap.size\/W.heap.size<=k):=fun k hk=>by
       rcases List.mem_cons.1 hk with z| z
       · exact⟨z▸aC fK.out.fk,Or.inl (qc.out k (by simp [z]))⟩
       · exact⟨(fK.out.da.lt k z).2,(fK.out.gr k z).imp (fun q=>qc.out k (by simp [q])) id⟩
     have hW0:=aC HQ0.out
     have hW1:=aC HQ1.out
     have hr0:=aC Hq0.out
     have hr1:=aC Hq1.out
     have n0:w.heap.size∉S.g::F':=fun q=>by have:=(hF' _ q).2;omega
     have n1:w.heap.size+1∉S.g::F':=fun q=>by have:=(hF' _ q).2;omega
     have n3:S.st∉S.g::F':=fun q=>by
       rcases List.mem_cons.1 q with z| z
       · exact HS1.out.ct.1 z
       · rcases fK.out.gr _ z with y| y
         · exact HS1.out.ct.2.1 y
         · have:=HS1.out.iW;omega
     have hst:S.st<wr.heap.size:=World.block_lt_of_cell? wr _ t0
     have z0:w6.cell? ⟨w.heap.size,0,none⟩=some (.pointer (some ⟨S.st,0,none⟩)):=(World.cell?_of_block (a:=⟨w.heap.size,0,none⟩) (hr6.block w.heap.size hr0 n0)).trans x0
     have z1:w6.cell? ⟨S.st,0,none⟩=some (.pointer (some ⟨S.g,0,none⟩)):=(World.cell?_of_block (a:=⟨S.st,0,none⟩) (hr6.block S.st hst n3)).trans t0
     have z5:w6.heap[w.heap.size+1]? =some (.cells #[.int .i64 0] 57 (0,0)):=(hr6.block (w.heap.size+1) hr1 n1).trans Hq1.out
     have e5:=cell_of_one z5
     have f5:w6.frozen? ⟨w.heap.size+1,0,none⟩=false:=frozen_of_row _ _ _ _ _ z5
     have HZ0:=aa z0
     have HZ1:=aa z1
     have HZ5:=aa z5
     have HD6:=aa hD6
     have Hf6:=aa hf6
     have Hr6:=aa hr6
     have Hg6:=aa hg6
     clear hD6 hf6 hr6 hg6 z0 z1 z5 II hF' n0 n1 n3 hW0 hW1 hr0 hr1 hst x0 t0
     go_wp2
     have IG:(w6.setCell ⟨w.heap.size+1,0,none⟩ (.int .i64 c2)).heap[w.heap.size+1]? =some (.cells #[.int .i64 c2] 57 (0,0)):=by rw [heap_setCell_same _ _ _ _ _ _ HZ5.out];rfl
     have pI: ∀k,k≠w.heap.size+1->(w6.setCell ⟨w.heap.size+1,0,none⟩ (.int .i64 c2)).heap[k]? =w6.heap[k]? :=fun k hk=>heap_setCell_other _ ⟨w.heap.size+1,0,none⟩ k _ hk
     have hE7:=cell_of_one IG
     have hQ7:(w6.setCell ⟨w.heap.size+1,0,none⟩ (.int .i64 c2)).cell? ⟨w.heap.size,0,none⟩=some (.pointer (some ⟨S.st,0,none⟩)):=(World.cell?_of_block (a:=⟨w.heap.size,0,none⟩) (pI w.heap.size (by omega))).trans HZ0.out
     have hst7:(w6.setCell ⟨w.heap.size+1,0,none⟩ (.int .i64 c2)).cell? ⟨S.st,0,none⟩=some (.pointer (some ⟨S.g,0,none⟩)):=(World.cell?_of_block (a:=⟨S.st,0,none⟩) (pI S.st (by have:=qc.out S.st (by simp);omega))).trans HZ1.out
     have hE6:w.heap.size+1∉S.g::F2:=fun q=>by
       rcases List.mem_cons.1 q with z| z
       · have:=qc.out S.g (by simp);omega
       · exact HD6.out.cS HZ5.out (by decide) (by decide) (by decide) z
     have hW:=HB.out
     have hf1:Fr (S.g::S.F) w wr:=(Fr.ba (F:=S.g::S.F) hW).trans fK.out.fr (Gr.refl _ _)
     have KZ:Gr w (S.g::S.F) (S.g::F'):=fun k hk=>by
       rcases List.mem_cons.1 hk with z| z
       · exact Or.inl (z▸List.mem_cons_self ..)
       · exact(fK.out.gr k z).imp (fun q=>List.mem_cons_of_mem _ q) (fun q=>Nat.le_trans hW.size q)
     have hf2:=hf1.trans Hr6.out KZ
     have hgF2:Gr w S.F F2:=fun k hk=>by
       rcases Hg6.out k hk with z| z
       · exact(fK.out.gr k z).imp id (fun q=>Nat.le_trans hW.size q)
       · exact Or.inr (Nat.le_trans hf1.size z)
     have hgF3:Gr w (S.g::S.F) (S.g::F2):=fun k hk=>by
       rcases List.mem_cons.1 hk with z| z
       · exact Or.inl (z▸List.mem_cons_self ..)
       · exact(hgF2 k z).imp (fun q=>List.mem_cons_of_mem _ q) id
     have hf3:Fr (S.g::S.F) w (w6.setCell ⟨w.heap.size+1,0,none⟩ (.int .i64 c2)):=⟨hf2.os,hf2.tape,hf2.output,by rw [World.size_setCell];exact hf2.size,fun k hk hn=>(pI k (by omega)).trans (hf2.block k hk hn)⟩
     have hD7:=HD6.out.qI (fun q=>hE6 (List.mem_cons_of_mem _ q)) 0 (.int .i64 c2)
     have hrs2:aX (bW S.D m S.vs) [.sync, .lay ⟨S.s.wd,S.s.ge+1,(m+S.vs.length:Nat),hd,S.s.pg⟩ 0 0, .sync]=(D2,c2):=by rw [<-uE.out,SY.out];exact VF.out
     have hlv2:ak (bW S.D m S.vs) S.ep=0:=by rw [<-uE.out];exact fK.out.lv
     refine leaves_cons (f:=97) (args:= #[.pointer (some ⟨w.heap.size+1,0,none⟩), .pointer (some ⟨w.heap.size,0,none⟩)]) (by simp) (by simp [go_sem]) ?_
     by_cases hc2:c2=0
     · subst hc2
       refine(Dv _ (w.heap.size+1) w.heap.size .returning hE7).mono ?_
       rintro e u' w8 ⟨rfl,rfl,rfl⟩
       refine⟨.int .i64 0,?_,0,D2,⟨S.s.wd,S.s.ge+1,(m+S.vs.length:Nat),hd,S.s.pg⟩,F2,rfl,Or.inr ⟨hlv2,by rw [hrs2],by rw [hrs2],by rw [if_pos rfl]⟩,hD7,?_,hf3,hgF2⟩
       · simp [results,Tryz.results77,go_sem,hE7]
       · have:=Hf6.out
         rw [if_pos rfl]at this
         rw [SY.out]
         exact(pI S.g (by have:=qc.out S.g (by simp);omega)).trans this
     · have Qm:=Hf6.out
       rw [if_neg hc2]at Qm
       refine(sW _ base F2 S.p D2 hD7 S.g S.s (m+i:Nat) S.ep ((pI S.g (by have:=qc.out S.g (by simp);omega)).trans Qm) (w.heap.size+1) w.heap.size S.st .returning c2 hc2 hE7 hQ7 hst7).mono ?_
       rintro e u' w8 ⟨rfl,rfl,hD8,hK8,hR8⟩
       have hE8:w8.cell? ⟨w.heap.size+1,0,none⟩=some (.int .i64 c2):=(World.cell?_of_block (a:=⟨w.heap.size+1,0,none⟩) (hR8.block (w.heap.size+1) (aC IG) hE6)).trans hE7
       refine⟨.int .i64 c2,?_,c2,D2,S.s,F2,rfl,Or.inr ⟨hlv2,by rw [hrs2],by rw [hrs2],by rw [if_neg hc2]⟩,hD8,hK8,hf3.trans hR8 hgF3,hgF2⟩
       simp [results,Tryz.results77,go_sem,hE8]
theorem SK.BK{w w':World}{base:Nat}{S:au}(h:SK w base S){F':List Nat}{D':DS}(hD:DA w' base F' S.p D')(m:Nat)(hm:S.s.ma=m)(hf:FK w' S.g S.p S.s S.s.ma S.ep)(fr:Fr (S.g::S.F) w w')(gr:Gr w S.F F'):
   SK w' base {S with F:=F',D:=D',nx:=m}:=by
 obtain⟨o1,o2,o3,o4⟩:=h.off fr
 have hold2: ∀k,(k=S.g\/k=S.st\/k∈S.F\/k∈S.FC\/S.sv.ownBlock=some k\/k∈S.lb)->base<=k/\k<w.heap.size:=fun k q=>h.dG q
 refine⟨hD,?_,?_,o1.trans h.sk,cZ h.so o2,fun k q=>⟨(h.lb k q).1,?_⟩,h.cl,fun j hj=>(h.cv j hj).to (fun k q=>q) o3,fun x hx=>?_,h.hd,fun k hk q=>?_,fun k hk q=>?_,h.a3,h.bg,h.bs,h.bp⟩
 · show FK w' S.g S.p S.s (m:Int) S.ep
   rw [<-hm];exact hf
 · obtain⟨mm,n,s,L,e,c,r⟩:=h.ca
   exact⟨mm,n,s,L,e,c.of_heap fun k hk=>o4 k (by rw [e];exact hk),r⟩
 · obtain⟨cs,hc⟩:=(h.lb k q).2
   exact⟨cs,(o3 k q).trans hc⟩
 · obtain⟨v,h1,h2,h3,h4⟩:=h.ck x hx
   exact⟨v,h1.to (fun k q=>q) o3,h2,h3,h4⟩
 · rcases gr k hk with z| z
   · exact h.a1 k z q
   · have:=(hold2 k (by simp [q])).2;omega
 · rcases gr k hk with z| z
   · exact h.a2 k z q
   · have:=(hold2 k (by simp [q])).2;omega
theorem FR(w:World)(base:Nat)(S:au)(h:SK w base S)(hlv:ak S.D S.ep=0)(hge:S.s.ge≠1099511627776)(R:Ending->World->Prop)(nD: ∀w1,Below w.heap.size w w1->Calls Tryz.prog 77 #[.pointer (some ⟨S.st,0,none⟩), .int .i64 0] w1 fun e w'=> ∃c,c≠0/\e= .returned (.int .i64 c)/\R (.returned (.int .i64 c)) w'):
   Calls Tryz.prog 50 #[.pointer (some ⟨S.st,0,none⟩), .int .i64 0] w fun e w'=>R e w':=by
 have HL:=aa (dn w base S h)
 rw [hlv]at HL
 have mn:=aa (fun w1 (q:Below w.heap.size w w1)=>iX w1 base S (h.below q))
 have sZ:=aa nD
 have hg1:(S.s.ge==1099511627776)=false:=by simpa using hge
 clear h hlv nD hge
 go_enter Tryz.func50,Tryz.ntmps50
 go_wp2_with fail
 refine HL.out.mono ?_
 rintro e w1 ⟨rfl,hb1⟩
 have HB1:=aa hb1
 clear hb1 HL
 go_wp2_with fail
 refine(mn.out w1 HB1.out).mono ?_
 rintro e w2 ⟨rfl,hb2⟩
 have HB2:=aa (HB1.out.trans (hb2.mono HB1.out.size))
 clear hb2 HB1 w1 mn
 go_wp2_with (first| refine gh rfl _ rfl S.s S.s.ge rfl rfl ?_)
 refine(sZ.out w2 HB2.out).mono ?_
 rintro e w3 ⟨c,hc,rfl,hR⟩
 have hc2:(c !=0)=true:=by simpa using hc
 have HR:=aa hR
 clear hR hc sZ
 go_wp2
 exact HR.out
theorem IJ(w:World)(base:Nat)(S:au)(h:SK w base S)(hlv:ak S.D S.ep=0)(hge:S.s.ge≠1099511627776)(hN:S.N<3000000000000000000)(R:World->Prop)(nD: ∀w1,Below w.heap.size w w1->Calls Tryz.prog 77 #[.pointer (some ⟨S.st,0,none⟩), .int .i64 0] w1 fun e w'=>e= .returned (.int .i64 0)/\w'.heap[S.st]? =some (.cells (kY S.g S.pc S.sv).toArray 96 (0,0))/\Ca.CA w' base S.FC S.pc S.N S.a/\R w'):
   Calls Tryz.prog 50 #[.pointer (some ⟨S.st,0,none⟩), .int .i64 0] w fun e w'=> ∃w3,e= .returned (.int .i64 0)/\R w3/\Ca.Nx base S.FC S.pc S.N (w3.setCell ⟨S.st,3,none⟩ (.slice none 0 0)) S.a.settle w':=by
 have HL:=aa (dn w base S h)
 rw [hlv]at HL
 have mn:=aa (fun w1 (q:Below w.heap.size w w1)=>iX w1 base S (h.below q))
 have sZ:=aa nD
 have gF:=aa h.ct.2.2.1
 have hg1:(S.s.ge==1099511627776)=false:=by simpa using hge
 clear h hlv nD hge
 go_enter Tryz.func50,Tryz.ntmps50
 go_wp2_with fail
 refine HL.out.mono ?_
 rintro e w1 ⟨rfl,hb1⟩
 have HB1:=aa hb1
 clear hb1 HL
 go_wp2_with fail
 refine(mn.out w1 HB1.out).mono ?_
 rintro e w2 ⟨rfl,hb2⟩
 have HB2:=aa (HB1.out.trans (hb2.mono HB1.out.size))
 clear hb2 HB1 w1 mn
 go_wp2_with (first| refine gh rfl _ rfl S.s S.s.ge rfl rfl ?_)
 refine(sZ.out w2 HB2.out).mono ?_
 rintro e w3 ⟨rfl,r3,hC3,hR⟩
 have HR:=aa hR
 have k3:w3.cell? ⟨S.st,3,none⟩=some S.sv:=by rw [cell_of_row _ _ _ _ _ _ r3];rfl
 have kf:w3.frozen? ⟨S.st,3,none⟩=false:=frozen_of_row _ _ _ _ _ r3
 have r4:(w3.setCell ⟨S.st,3,none⟩ (.slice none 0 0)).heap[S.st]? =some (.cells (kY S.g S.pc (.slice none 0 0)).toArray 96 (0,0)):=by rw [heap_setCell_same _ _ _ _ _ _ r3];rfl
 have k2:(w3.setCell ⟨S.st,3,none⟩ (.slice none 0 0)).cell? ⟨S.st,2,none⟩=some (.pointer (some ⟨S.pc,0,none⟩)):=by rw [cell_of_row _ _ _ _ _ _ r4];rfl
 have BM:Hid (Calls Tryz.prog 78 #[.pointer (some ⟨S.pc,0,none⟩)] (w3.setCell ⟨S.st,3,none⟩ (.slice none 0 0)) fun x w'=>x= .returned (.tuple #[])/\Ca.Nx base S.FC S.pc S.N (w3.setCell ⟨S.st,3,none⟩ (.slice none 0 0)) S.a.settle w'):=aa (Ca.wW _ base S.FC S.pc S.N S.a (by
   obtain⟨mm,n,s,L,e,c,r⟩:=hC3
   exact⟨mm,n,s,L,e,c.of_heap fun k hk=>heap_setCell_other _ ⟨S.st,3,none⟩ k _ (fun q=>gF.out (by have q2:k=S.st:=q;rw [<-q2,e];exact hk)),r⟩) hN)
 clear hR hC3 r3 r4 sZ
 go_wp2_with fail
 refine BM.out.mono ?_
 rintro e w4 ⟨rfl,hX⟩
 have HX:=aa hX
 clear hX BM
 go_wp2
 go_ret
 exact⟨w3,rfl,HR.out,HX.out⟩
def ld(n lo hi:Int):Int:=if n.tmod (hi-lo+1)<0 then lo+(n.tmod (hi-lo+1)+hi-lo+1)else lo+n.tmod (hi-lo+1)
theorem tY(n m:Int)(h:0<m):n.tmod m<m/\ -m<n.tmod m:=by
 have t0:=Int.tmod_lt_of_pos n h
 have:=Int.tmod_lt_of_pos (-n) h
 rw [Int.neg_tmod]at this
 omega
theorem oN(n lo hi:Int)(h:lo<=hi):lo<=ld n lo hi/\ld n lo hi<=hi:=by
 have:=tY n (hi-lo+1) (by omega)
 unfold ld
 split<;>omega
theorem nc(w:World)(n lo hi:Int)(h:lo<=hi)(h0:0<=lo)(h1:hi<=100000):
   Calls Tryz.prog 4 #[.int .i64 n, .int .i64 lo, .int .i64 hi] w fun e w'=>e= .returned (.int .i64 (ld n lo hi))/\w'=w:=by
 have d0:((hi-lo+1)==0)=false:=by simp;omega
 have d1:hi-lo+1≠0:=by omega
 obtain⟨t0,t1⟩:=tY n (hi-lo+1) (by omega)
 unfold ld
 go_enter Tryz.func4,Tryz.ntmps4
 go_wp2
 all_goals (go_ret;exact⟨rfl,rfl⟩)
theorem eZ(w:World)(zs:List Int)(sp:Option Addr)(cap:Nat)(hS:Src w sp cap zs)(hlen:zs.length<=140737488355000)(n:Nat)(hn:n<=1000):
   Calls Tryz.prog 21 #[.slice sp zs.length cap, .int .i64 n] w fun e w'=> ∃v,e= .returned v/\Own w' w.heap.size v (zs.take n)/\Below w.heap.size w w':=by
 obtain⟨hc,hm,b,o,hb,hsp,hsrc⟩:=hS
 have hO:=Own.nil w w.heap.size
 have i0:(zs.length:Int)<=140737488355000:=by omega
 have i9:(n:Int)<=1000:=by omega
 go_enter Tryz.func21,Tryz.ntmps21
 go_wp2
 go_loopw [5,6] (fun v i wr=> ∃k:Nat,k<=zs.length/\k<=n/\i= .int .i64 k/\Own wr w.heap.size v (zs.take k)/\Below w.heap.size w wr) (fun _ i _=>zs.length-(intOf i).toNat)
 case atStart=>exact⟨0,by omega,by omega,rfl,hO,Below.refl _ _⟩
 case round=>
   clear hO
   obtain⟨k,hk,hkn,rfl,hO,hB⟩:=hrel
   by_cases hlt:k<zs.length
   · have i1:(k:Int)<(zs.length:Int):=by omega
     by_cases Er:k<n
     · have i2:(k:Int)<(n:Int):=by omega
       obtain rfl:=hsp (by omega)
       have c0:=(hB.cell (p:=⟨b,o+k,none⟩) (hb (by omega))).trans (hsrc k hlt)
       have HT:=aa (show zs.take (k+1)=zs.take k++ [zs.getD k 0] by
         rw [List.take_succ_eq_append_getElem hlt,List.getD_eq_getElem?_getD,List.getElem?_eq_getElem hlt];rfl)
       have KL:=aa (show(zs.take k).length+1<=140737488355328 by rw [List.length_take];omega)
       generalize zs.getD k 0=x at*
       generalize zs.take k=zk at*
       go_wp2_with (first| (at_builtin;refine vG rfl (.tmp 18) (.tmp 23) rfl w.heap.size _ _ x rfl hO rfl KL.out hB.size _ _ ?_;intro v2 w2 hO2 hB2))
       go_roundw
       case rel=>exact⟨k+1,by omega,by omega,by go_num,(by rw [HT.out];exact hO2),hB.trans hB2⟩
       case measure=>simp [intOf];omega
     · obtain rfl:k=n:=by omega
       go_wp2
       go_ret
       exact⟨_,rfl,hO,hB⟩
   · obtain rfl:k=zs.length:=by omega
     have HT:=aa (show zs.take n=zs.take zs.length by rw [List.take_length,List.take_of_length_le (by omega)])
     clear hlt
     go_wp2
     go_ret
     exact⟨_,rfl,(by rw [HT.out];exact hO),hB⟩
structure td (D:DS) (n:Nat) (wd:Int):Prop where
 ok:cC D
 np:D.np=n
 ops:D.ops= []
 pw:D.power=true
 arm:D.armed=0
 ag:D.ag=0
 reads:D.reads=2
 writes:D.writes=2
 aA:D.aA=2
 chs:aM (D.aj 0) (D.aj 1)=(fS n wd 1,0)
theorem IK(w:World)(n:Nat)(wd:Int)(hn:3<=n/\n<=64)(hw:1<=wd/\wd<=32):
   Calls Tryz.prog 11 #[.int .i64 n, .int .i64 wd] w fun e w'=> ∃p F D,e= .returned (.pointer (some ⟨p,0,none⟩))/\DA w' w.heap.size F p D/\td D n wd/\Below w.heap.size w w':=by
 have iI:=aa (GV w n hn.1 (by omega))
 obtain⟨Z,hZ⟩: ∃Z:List Int,Z=List.replicate (256*n) 0:=⟨_,rfl⟩
 rw [<-hZ]at iI
 have IL:cC (dy Z):=by rw [hZ];exact xV hn.1 (by omega) List.length_replicate (xW _)
 have BO:(dy Z).np=n:=by
   show Z.length/256=n
   rw [hZ,List.length_replicate];omega
 have pz: ∀q,q<n->bO Z q=zz 256:=fun q hq=>by rw [hZ];exact Bb n q hq
 have RN:=aa (show Rest (dy Z) n 0 from⟨IL,BO,rfl,rfl,rfl,rfl,(by decide:(0:Int)<=1000),(by decide:(0:Int)<=1000),(by decide:(0:Int)<=1000)⟩)
 have BN:=aa (show Blank (bO (dy Z).af 0) (bO (dy Z).af 1)from by show Blank (bO Z 0) (bO Z 1);rw [pz 0 (by omega),pz 1 (by omega)];exact Bg)
 have j0:(n:Int)<=64:=by omega
 have HW:=aa hw
 have HN:=aa hn
 obtain⟨B,hBB⟩: ∃B,B=w.heap.size:=⟨_,rfl⟩
 rw [<-hBB]at iI⊢
 have B0:=aa (show B<=w.heap.size by omega)
 have My:=aa BO
 clear hw hn hZ hBB IL BO pz
 go_enter Tryz.func11,Tryz.ntmps11
 go_wp2_with fail
 refine iI.out.mono ?_
 rintro e w1 ⟨p,F,rfl,hD1,hB1⟩
 have HD1:=aa hD1
 have HB1:=aa hB1
 have zv:=aa (uB w1 B F p (dy Z) hD1 (Nat.le_trans B0.out hB1.size) n 0 RN.out wd HW.out BN.out)
 clear hD1 hB1 iI
 go_wp2_with fail
 refine zv.out.mono ?_
 rintro e w2 ⟨rfl,D2,iN,hnp2,hN2⟩
 obtain⟨F2,hDA2,hB2,_⟩:=Nx.go HD1.out HB1.out B0.out hN2
 have hgd:=iN.good HW.out
 rw [show({dy Z with reads:=(dy Z).reads+2}:DS).np=(dy Z).np from rfl,My.out]at hgd
 have Qn:Hid (td D2 n wd):=aa ⟨iN.ok,hnp2,iN.ops,iN.pw,iN.arm,iN.ag,iN.reads,iN.writes,iN.aA,hgd.tV iN.ops⟩
 have HDA2:=aa hDA2
 have HB2:=aa hB2
 clear iN hnp2 hN2 hDA2 hB2 hgd zv
 go_wp2
 go_ret
 exact⟨p,F2,D2,rfl,HDA2.out,Qn.out,HB2.out⟩
structure MD where
 kind:Int
 load:List Int
def dM:MD:=⟨0,[]⟩
def VG(m:MD)(tp:Option Addr)(tc:Nat):List Value:= [.int .i64 m.kind, .slice tp m.load.length tc]
def Ta(w:World)(B:Nat)(sp:Option Addr)(ms:List MD):Prop:= ∃b o,(0<ms.length->b<B/\sp=some ⟨b,o,none⟩)/\ ∀i,i<ms.length-> ∃tp tc,w.rangeAt b (o+i*2) (VG (ms.getD i dM) tp tc)/\Src w tp tc (ms.getD i dM).load/\(0<(ms.getD i dM).load.length-> ∀a,tp=some a->a.block<B)
theorem FT{w w1:World}{B:Nat}{sp:Option Addr}{cap:Nat}{zs:List Int}(h:Src w sp cap zs)(hb:Below B w w1)(hB:0<zs.length-> ∀a,sp=some a->a.block<B):Src w1 sp cap zs:=by
 obtain⟨h1,h2,b,o,h3,h4,h5⟩:=h
 refine⟨h1,h2,b,o,fun hp=>Nat.lt_of_lt_of_le (h3 hp) hb.size,h4,fun j hj=>?_⟩
 have:b<B:=hB (by omega) _ (h4 (by omega))
 exact(hb.cell (p:=⟨b,o+j,none⟩) this).trans (h5 j hj)
theorem Ta.at{w w1:World}{B:Nat}{sp:Option Addr}{ms:List MD}(h:Ta w B sp ms)(hb:Below B w w1)(i:Nat)(hi:i<ms.length): ∃b o tp tc,sp=some ⟨b,o,none⟩/\b<B/\w1.cell? ⟨b,o+i*2,none⟩=some (.int .i64 (ms.getD i dM).kind)/\w1.cell? ⟨b,o+i*2+1,none⟩=some (.slice tp (ms.getD i dM).load.length tc)/\Src w1 tp tc (ms.getD i dM).load/\(0<(ms.getD i dM).load.length-> ∀a,tp=some a->a.block<B):=by
 obtain⟨b,o,h1,h2⟩:=h
 obtain⟨q1,q2⟩:=h1 (by omega)
 obtain⟨tp,tc,q3,q4,q5⟩:=h2 i hi
 exact⟨b,o,tp,tc,q2,q1,(hb.cell (p:=⟨b,o+i*2,none⟩) q1).trans (q3 0 _ rfl),(hb.cell (p:=⟨b,o+i*2+1,none⟩) q1).trans (q3 1 _ rfl),FT q4 hb q5,q5⟩
structure xk (S S':au):Prop where
 p:S'.p=S.p
 g:S'.g=S.g
 st:S'.st=S.st
 pc:S'.pc=S.pc
 D:S'.D=S.D
 s:S'.s=S.s
 nx:S'.nx=S.nx
 ep:S'.ep=S.ep
theorem xk.refl(S:au):xk S S:=⟨rfl,rfl,rfl,rfl,rfl,rfl,rfl,rfl⟩
theorem xk.trans{S S' Tb:au}(h:xk S S')(k:xk S' Tb):xk S Tb:=⟨k.p.trans h.p,k.g.trans h.g,k.st.trans h.st,k.pc.trans h.pc,k.D.trans h.D,k.s.trans h.s,k.nx.trans h.nx,k.ep.trans h.ep⟩
theorem SK.RI{w:World}{base:Nat}{S:au}(h:SK w base S){k:Nat}(hk:k∈S.fp):base<=k:=(h.dG (by rcases(au.mem S k).1 hk with e| e| e| e| e| e<;>simp [e])).1
def th(D:DS):DS:={D with reads:=D.reads+2,ag:=D.ag+1}
theorem td.live{D:DS}{n:Nat}{wd:Int}(h:td D n wd):ak (th D) 1=0:=by
 unfold ak th
 rw [if_neg (by show¬(D.ag+1≠1);rw [h.ag];decide),if_pos h.pw]
theorem IP(w:World)(base:Nat)(F:List Nat)(p:Nat)(D:DS)(h:DA w base F p D)(n:Nat)(wd:Int)(hB:td D n wd):
   Calls Tryz.prog 12 #[.pointer (some ⟨p,0,none⟩)] w fun e w'=> ∃g,e= .returned (.tuple #[.pointer (some ⟨g,0,none⟩), .int .i64 0])/\w.heap.size<=g/\FK w' g p (fS n wd 1) 2 1/\DA w' base F p (th D)/\Fr F w w':=by
 have:=Ej w base F p D h hB.pw (by rw [hB.reads];decide) (by rw [hB.ag];decide) (fS n wd 1) hB.chs (by rw [hB.np];rfl)
 refine this.mono fun e w' ⟨g,h1,h2,h3,h4,h5⟩=>⟨g,h1,h2,?_,h4,h5⟩
 rw [show(fS n wd 1).ma=2 from rfl,hB.ag]at h3
 exact h3
def Mz(p g st pc:Nat)(F FC:List Nat)(D:DS)(n:Nat)(wd room:Int):au:=⟨p,g,st,pc,F,FC,[],th D,fS n wd 1,2,1,0,Ca.kq room, .slice none 0 0,[],[],fun _=>(0,[])⟩
theorem Lb(w:World)(base:Nat)(F:List Nat)(p:Nat)(D:DS)(h:DA w base F p (th D))(n:Nat)(wd:Int)(hB:td D n wd)(g:Nat)(hf:FK w g p (fS n wd 1) 2 1)(hbg:base<=g)(room:Int)(hr:0<=room/\room<=4096):
   Calls Tryz.prog 13 #[.pointer (some ⟨g,0,none⟩), .int .i64 room] w fun e w'=> ∃st pc FC,e= .returned (.tuple #[.pointer (some ⟨st,0,none⟩), .int .i64 0])/\SK w' base (Mz p g st pc F FC D n wd room)/\Below base w w':=by
 have:=qN w base F p (th D) h g (fS n wd 1) 2 1 hf hbg hB.live room hr 2 rfl
 refine this.mono fun e w' ⟨st,pc,FC,he,hK,_,_,hF⟩=>⟨st,pc,FC,he,hK,hF.below (fun k hk=>?_) ?_⟩
 · rcases List.mem_cons.1 hk with e| e
   · rw [e];exact hbg
   · exact(h.lt k e).1
 · have:=aC hf;omega
theorem build97(w:World):(Instr.buildSlice 31 1 #[(0, .int .u8 97)]).run Tryz.prog w= .ok (.slice (some ⟨w.heap.size,0,none⟩) 1 1) (w.alloc (.cells #[.int .u8 97] 5)):=by kernel_rfl
def w97(w:World):World:=w.alloc (.cells #[.int .u8 97] 5 (1,2))
theorem Dw(a:Array Obj)(x:Obj)(f:Obj->Obj):(a.push x).modify a.size f=a.push (f x):=by
 apply Array.ext
 · simp
 · intro i h1 h2
   simp only [Array.getElem_modify,Array.getElem_push]
   by_cases h:a.size=i
   · subst h;simp
   · have hi:i<a.size:=by simp at h1;omega
     simp [h,hi]
theorem conv97(w:World):(convert 31 31 (.slice (some ⟨w.heap.size,0,none⟩) 1 1)).run Tryz.prog (w.alloc (.cells #[.int .u8 97] 5))= .ok (.slice (some ⟨w.heap.size,0,none⟩) 1 1) (w97 w):=by
 have hsh:(w.alloc (.cells #[.int .u8 97] 5)).shape? w.heap.size=some (5,1):=by
   unfold World.shape?
   rw [aF w (.cells #[.int .u8 97] 5)];rfl
 have nE:(w.alloc (.cells #[.int .u8 97] 5)).freeze ⟨w.heap.size,1,none⟩ 1=w97 w:=by
   unfold World.freeze
   rw [if_neg (by decide)]
   show({w.alloc (.cells #[.int .u8 97] 5)with heap:=(w.heap.push (.cells #[.int .u8 97] 5)).modify w.heap.size _}:World)=_
   rw [Dw];rfl
 simp [convert,run_underlying Tryz.underlying31,run_underlying Tryz.underlying5,markStringish,hsh,nE]
theorem src97(w:World):Src (w97 w) (some ⟨w.heap.size,0,none⟩) 1 [97]:=
 ⟨Nat.le_refl _,by decide,w.heap.size,0,fun _=>by show w.heap.size<(w97 w).heap.size;simp [w97],fun _=>rfl,fun j hj=>by
   obtain rfl:j=0:=by simpa using hj
   show(w97 w).cell? ⟨w.heap.size,0,none⟩=_
   unfold w97 World.cell?
   rw [aF w (.cells #[.int .u8 97] 5 (1,2))];rfl⟩
theorem bel97(w:World):Below w.heap.size w (w97 w):=aq w _
theorem IQ(w:World):Calls Tryz.prog 6 #[] w fun e w'=>e= .returned (.bool true)/\Below w.heap.size w w':=by
 have b97:=build97
 have c97:=conv97
 obtain⟨base,hbase⟩: ∃base,base=w.heap.size:=⟨_,rfl⟩
 have oI:=aa hbase
 go_enter Tryz.func6,Tryz.ntmps6
 go_wp2_with fail
 refine(IK w 5 32 (by omega) (by omega)).mono ?_
 rintro _ w1 ⟨p,F,D,rfl,hD,hB,hb1⟩
 rw [<-oI.out]at hD hb1
 have HB:=aa hB
 have HD:=aa hD
 have HB1:=aa hb1
 clear hB hD hb1 hbase
 go_wp2_with fail
 refine(IP w1 base F p D HD.out 5 32 HB.out).mono ?_
 rintro _ w2 ⟨g,rfl,hg,hf,hD2,hF2⟩
 have VH:=aa (show base<=g by have:=HB1.out.size;have:=oI.out;omega)
 have HF:=aa hf
 have HD2:=aa hD2
 have HB2:=aa (HB1.out.trans (hF2.below (fun k hk=>(HD.out.lt k hk).1) (by have:=HB1.out.size;have:=oI.out;omega)))
 clear hg hf hD2 hF2
 go_wp2_with fail
 refine(Lb w2 base F p D HD2.out 5 32 HB.out g HF.out VH.out 1 (by omega)).mono ?_
 rintro _ w3 ⟨st,pc,FC,rfl,hK3,hb3⟩
 have HK3:=aa hK3
 have HB3:=aa (HB2.out.trans hb3)
 clear hK3 hb3
 have Tc:=aa (show Calls Tryz.prog 14 #[.pointer (some ⟨st,0,none⟩), .int .i64 1, .slice (some ⟨w3.heap.size,0,none⟩) 1 1] (w97 w3) fun e w'=> ∃S2,e= .returned (.tuple #[.int .i64 2, .int .i64 0])/\(xk (Mz p g st pc F FC D 5 32 1) S2/\S2.N=1/\S2.vs= [(1,[97])])/\SK w' base S2/\Below base w w' from by
   have hb0:=bel97 w3
   have hS0:=HK3.out.below hb0
   have:=xc (w97 w3) base _ hS0 HB.out.live (by show(0:Nat)<=100000;omega) (by show(2:Int)<=2/\(2:Int)<=100000;omega) (by show(0:Nat)<_;omega) (by show(2:Int)+((0:Nat):Int)≠(((th D).np:Nat):Int);rw [show(th D).np=D.np from rfl,HB.out.np];decide) 1 (by omega) [97] (fun x hx=>by simp at hx;omega) (by decide) _ 1 (src97 w3) (fun q=>by cases q)
   refine this.mono fun e w' ⟨FC2,lb,a,sv,c,he,_,hK,hF,hG⟩=>⟨⟨p,g,st,pc,F,FC2,lb,th D,fS 5 32 1,2,1,0+1,a,sv,[]++ [c],[]++ [(1,[97])],fun _=>(0,[])⟩,he,⟨⟨rfl,rfl,rfl,rfl,rfl,rfl,rfl,rfl⟩,rfl,rfl⟩,hK,?_⟩
   exact HB3.out.trans ((hb0.mono (by have:=HB3.out.size;have:=oI.out;omega)).trans (hF.below (fun k hk=>hS0.RI hk) (by have:=HB3.out.size;have:=hb0.size;have:=oI.out;omega))))
 go_wp2_with fail
 refine Tc.out.mono ?_
 rintro _ w4 ⟨S2,rfl,hS2,hK4,hb4⟩
 have HB4:=aa hb4
 have HK4:=aa hK4
 have hst2:S2.st=st:=hS2.1.st
 have gH:S2.aB.length=1:=by rw [hK4.cl,hS2.2.2];rfl
 have Td:=aa (show Calls Tryz.prog 15 #[.pointer (some ⟨st,0,none⟩), .int .i64 2] w4 fun e w'=> ∃v,e= .returned (.tuple #[.int .i64 1,v, .int .i64 0])/\Own w' w4.heap.size v [97]/\(∃S3,SK w' base S3/\S3.st=st/\S3.D=th D)/\Below base w w' from by
   have IU:=hK4.cv 0 (by omega)
   rw [hS2.2.2]at IU
   have hval:=hK4.uY 0 (by omega)
   rw [hS2.1.s]at hval
   have:=IE w4 base S2 hK4 (by rw [hS2.1.D,hS2.1.ep];exact HB.out.live) (by omega) (by rw [hS2.1.s];show(2:Int)<=2/\(2:Int)<=100000;omega) (by rw [hS2.2.1];omega) 2 (by rw [hS2.1.s,gH];show(2:Int)<=2/\(2:Int)<2+((1:Nat):Int);omega) _ hval 1 [97] IU
   rw [hst2]at this
   refine this.mono fun e w' ⟨FC2,v,he,hO,hK,hF,hG⟩=>⟨v,he,hO,⟨_,hK,rfl,hS2.1.D⟩,?_⟩
   exact hb4.trans (hF.below (fun k hk=>(hK4.dG (by simp [hk])).1) (by have:=hb4.size;have:=oI.out;omega)))
 clear hK4 hb4 Tc hS2 gH hst2
 go_wp2_with fail
 refine Td.out.mono ?_
 rintro _ w5 ⟨v5,rfl,hO5,hS5,hb5⟩
 obtain⟨sp5,cap5,rfl,hs5,hn5⟩:=hO5.form
 have HS5:=aa hS5
 have HB5:=aa hb5
 have lZ:=aa hs5
 have iz:=aa (kg (w97 w5) [97] [97] sp5 (some ⟨w5.heap.size,0,none⟩) cap5 1 (hs5.below (bel97 w5) (Nat.le_refl _)) (src97 w5))
 rw [show decide (([97]:List Int)= [97])=true from rfl]at iz
 have HBA5:=aa (show base<=w5.heap.size by have:=HB5.out.size;have:=oI.out;omega)
 clear hO5 hS5 hb5 hs5 hn5 Td
 go_wp2_with fail
 refine iz.out.mono ?_
 rintro _ w6 ⟨rfl,hb6⟩
 obtain⟨S3,hK3,hst3,hD3⟩:=HS5.out
 have hK6:=(hK3.below (bel97 w5)).below hb6
 have jw:=aa (mZ w6 base S3 hK6)
 rw [hst3,hD3,show(th D).np=D.np from rfl,HB.out.np]at jw
 have HB6:=aa (HB5.out.trans (((bel97 w5).trans (hb6.mono (bel97 w5).size)).mono HBA5.out))
 clear hb6 hK3 hK6 hst3 hD3
 go_wp2_with fail
 refine jw.out.mono ?_
 rintro _ wx ⟨rfl,hw⟩
 obtain rfl:=hw
 go_wp2
 go_ret
 exact⟨rfl,oI.out▸HB6.out⟩
end Go.Proofs.YtpdakmhnnkaafaaGreat

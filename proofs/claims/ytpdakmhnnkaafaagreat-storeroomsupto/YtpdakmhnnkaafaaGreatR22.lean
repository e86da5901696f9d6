import Derived.Test.YtpdakmhnnkaafaaGreatR21
import Derived.Test.YtpdakmhnnkaafaaGreatR01
namespace Go.Proofs.YtpdakmhnnkaafaaGreat
set_option maxRecDepth 100000
set_option maxHeartbeats 40000000
set_option linter.unusedVariables false
set_option linter.unusedSimpArgs false
open Go.RowKit
open Go.Proofs.YtpdakmhnnkaafaaGreat.Ca (Ct ct0 av bV AS)
attribute [local go_sem ↓] Go.wp_at_zero Go.wp_at_succ
theorem Ce(w:World)(base:Nat)(S:au)(b:Nat)(h:SK w base S)(G:Gd S b)(hb:b<=1000000000)(W:Wr)(c:Nat)(hW:WO w base W c)(hr:gK W S)(hc:c<=1000000000)(at_ nn m_:Int)(zr:List Int)(h8:aS zr)(hl:zr.length<=140737488352000)(rI:W.zr.length=600)(hq:(((W.turn:Int)+1)%2==0)=false)(sp:Option Addr)(l cap bt:Nat)(hlz:l=zr.length)(hS:Src w sp cap zr)(eD:0<zr.length-> ∀a,sp=some a->a.block<base):
   Calls Tryz.prog 24 #[.pointer (some ⟨W.g,0,none⟩), .pointer (some ⟨S.st,0,none⟩), .agg (aK 3 at_ nn m_ (.slice sp l cap) bt)] w (iZ w base S 3 nn zr W c):=by
 obtain⟨w2,hw2⟩: ∃w2,w2=(w.alloc (.cells (aK 3 at_ nn m_ (.slice sp l cap) bt) 38)).alloc (.cells #[.int .i64 0, .int .i64 0, .bool false, .slice none 0 0, .int .i64 0, .int .i64 0, .int .i64 0, .int .i64 0, .int .i64 0, .int .i64 0, .int .i64 0, .int .i64 0, .int .i64 0, .int .i64 0, .int .i64 0, .int .i64 0, .int .i64 0, .int .i64 0] 46):=⟨_,rfl⟩
 have HW2:=aa hw2
 have hP:Pn w w2 (aK 3 at_ nn m_ (.slice sp l cap) bt):=by rw [hw2];exact Pn.mk' w _
 have k0:w2.cell? ⟨w.heap.size,0,none⟩=some (.int .i64 3):=by rw [cell_of_row _ _ _ _ _ _ hP.op];rfl
 have k2:w2.cell? ⟨w.heap.size,2,none⟩=some (.int .i64 nn):=by rw [cell_of_row _ _ _ _ _ _ hP.op];rfl
 have h2:=h.below hP.bl
 have k4:w2.cell? ⟨w.heap.size,4,none⟩=some (.slice sp l cap):=by rw [cell_of_row _ _ _ _ _ _ hP.op];rfl
 subst hlz
 have iD:=aa (eZ w2 zr sp cap (hS.below hP.bl (Nat.le_refl _)) (by omega) 300 (by omega))
 have hW2:=hW.below hP.bl
 have HP:=aa hP
 have HH:=aa h
 have qh:=aa hW
 have kJ:=aa hr
 have lY:=aa hS
 have tD:=aa eD
 have H8:=aa h8
 have jk:=aa hl
 have xA:=aa hW.tu
 have mv:=aa (fun k hk=>(hW.ty (k:=k) hk).2.1)
 have HG:=aa G
 clear h h2 hW hr hP G hS eD h8 hl
 rw [hw2]at k0 k2 k4
 clear hw2
 go_enter Tryz.func24,Tryz.ntmps24
 go_wp2_with (first
   | refine cQ rfl (.tmp 2) rfl _ at_ nn m_ sp l cap bt rfl ?_)
 rw [<-HW2.out]
 refine iD.out.mono ?_
 rintro e w3 ⟨v3,rfl,hO3,hb3⟩
 obtain⟨s3,c3,rfl,_,_⟩:=hO3.form
 have hk3:(zr.take 300).length<=300:=by rw [List.length_take];omega
 have hk4:(zr.take 300).length<=zr.length:=by rw [List.length_take];omega
 have hkk0:zr.take (zr.take 300).length=zr.take 300:=oV zr
 generalize (zr.take 300).length=kk at*
 have qi:=aa hkk0
 clear hkk0
 have hW3:=hW2.below hb3
 obtain⟨_,_,_,c5,_,f5⟩:=hW3.cells
 have Ji:=f5 5
 clear f5
 have lj:=hW3.turned
 obtain⟨_,_,_,d5,d6,df⟩:=lj.cells
 have df6:=df 6
 clear df
 have Ev:(W.turn:Int)<=1000000000:=by have:=xA.out;omega
 have hti0:(0:Int)<=(W.turn:Int):=by omega
 have Ex:(w3.setCell ⟨W.g,5,none⟩ (.int .i64 ((W.turn:Int)+1))).cell? ⟨W.g,5,none⟩=some (.int .i64 ((W.turn:Int)+1)):=d5
 have xE:=aa lj
 have HB3:=aa hb3
 have fL:=lj.rm
 have Jn:=aa fL
 obtain⟨oW,dX,hR,_,_⟩:=fL.form
 have hR2:W.room= .slice oW W.zr.length dX:=hR
 have uL:(w3.setCell ⟨W.g,5,none⟩ (.int .i64 ((W.turn:Int)+1))).cell? ⟨W.g,6,none⟩=some (.slice oW W.zr.length dX):=d6.trans (by rw [<-hR2])
 have qY:=aa hR2
 clear d5 d6 hO3 hb3 hW3 lj hW2 iD k0 k2 k4 fL hR hR2
 rw [rI]at uL
 obtain⟨wA,nM⟩: ∃wA,wA=w3.setCell ⟨W.g,5,none⟩ (.int .i64 ((W.turn:Int)+1)):=⟨_,rfl⟩
 have QF:=aa nM
 obtain⟨gA,tE,QG,Wf,WS,Yb⟩: ∃gA,oW=some ⟨gA,0,none⟩/\ ∃QG,dX=QG/\ ∃rest,base<=gA/\W.zr.length<=dX:=by
   rcases Bo.zH (qY.out▸Jn.out)with⟨e,_⟩| ⟨g,cap2,rest,e,q1,q2,q3,q4,q5⟩
   · injection e with _ e2 _;omega
   · injection e with e1 e2 e3
     exact⟨g,e1,_,rfl,rest,q1,by omega⟩
 subst tE Wf
 have hcap600:(600:Int)<=(dX:Int):=by omega
 obtain⟨zA,oX⟩: ∃zA,zA=W.zr:=⟨_,rfl⟩
 have nN:Hid (zA.length=600):=aa (by rw [oX];exact rI)
 have Cf:Hid (Own wA base (.slice (some ⟨gA,0,none⟩) 600 dX) zA):=aa (by rw [nM,oX];have:=Jn.out;rw [qY.out,rI]at this;exact this)
 have hrg:W.room.ownBlock=some gA:=by rw [qY.out];rfl
 have QH:gA∈W.fp:=(W.mem _).2 (by simp [hrg])
 have kz:gA<w.heap.size:=mv.out gA QH
 have hgl2:=mv.out W.g ((W.mem _).2 (by simp))
 have Cg:=HP.out.sz
 have Ch:=HB3.out.size
 have QI:wA.heap.size=w3.heap.size:=by rw [nM,World.size_setCell]
 have ll: ∀k,k≠W.g->wA.heap[k]? =w3.heap[k]? :=fun k e=>by rw [nM];exact heap_setCell_other w3 ⟨W.g,5,none⟩ k _ e
 have gF:Hid (w.heap.size+2<=wA.heap.size):=aa (by omega)
 have kx:Hid (Below base w wA):=aa (by
   rw [nM]
   have cX:=HH.out.base
   exact((HP.out.bl.mono cX).trans (HB3.out.mono (Nat.le_trans cX HP.out.bl.size))).setCell qh.out.hg _)
 have dH:Hid (gA<wA.heap.size/\gA∉S.fp/\gA≠w.heap.size/\gA≠w.heap.size+1):=aa ⟨by omega,kJ.out gA hrg,by omega,by omega⟩
 have vo:Hid (wA.heap[w.heap.size]? =some (.cells (aK 3 at_ nn m_ (.slice sp zr.length cap) bt) 38 (0,0))):=aa ((ll _ (by omega)).trans ((HB3.out.block _ (by omega)).trans HP.out.op))
 have vq:Hid (wA.heap[w.heap.size+1]? =some (.cells cf 46 (0,0))):=aa ((ll _ (by omega)).trans ((HB3.out.block _ (by omega)).trans HP.out.an))
 have ky:Hid (∀k,k<w.heap.size->k∉W.fp->k≠gA/\wA.heap[k]? =w.heap[k]?):=aa (fun k e1 e2=>⟨fun e=>e2 (e▸QH),(ll k (fun e=>e2 ((W.mem _).2 (by simp [e])))).trans ((HB3.out.block k (by omega)).trans (HP.out.bl.block k e1))⟩)
 obtain⟨W1,hW0,tF,nO,nP⟩: ∃W1:List Int->Wr,WO wA base (W1 zA) (c+1)/\(∀(wa wb:World) (z z':List Int),WO wa base (W1 z) (c+1)->Own wb base (.slice (some ⟨gA,0,none⟩) 600 dX) z'->z'.length=600->(∀k,k<wa.heap.size->k≠gA->wb.heap[k]? =wa.heap[k]?)->WO wb base (W1 z') (c+1))/\(∀z,((W1 z).g=W.g/\(W1 z).dl=W.dl/\(W1 z).tl=W.tl)/\ ∀k∈(W1 z).fp,k∈W.fp\/w.heap.size<=k)/\(∀z k,(W1 z).room.ownBlock=some k->k<wA.heap.size/\k∉S.fp/\k≠w.heap.size+1):=by
   refine⟨fun z=>{W with turn:=W.turn+1,zr:=z},?_,fun wa wb z z' h1 h2 h3 h4=>?_,fun z=>⟨⟨rfl,rfl,rfl⟩,fun k hk=>Or.inl hk⟩,fun z k e=>?_⟩
   · rw [oX,nM];exact xE.out
   · exact h1.QE z' (by show Own wb base W.room z';rw [qY.out,rI];exact h2) (Or.inr h3) (fun k hk q=>h4 k (h1.ty hk).2.1 (fun e=>q (by show W.room.ownBlock=some k;rw [hrg,e])))
   · obtain rfl:gA=k:=by have e:W.room.ownBlock=some k:=e;rw [hrg]at e;simpa using e
     exact⟨by omega,kJ.out gA hrg,by omega⟩
 have HW0:=aa hW0
 have kB:=aa tF
 have nQ:=aa nO
 have fE:=aa nP
 clear hW0 tF nO nP hrg QH kz hgl2 Cg Ch QI ll oX
 go_wp2_with fail
 rw [<-QF.out]
 clear nM
 go_loopw [13] (fun i wr=> ∃k:Nat,k<=600/\i= .int .i64 k/\Own wr base (.slice (some ⟨gA,0,none⟩) 600 dX) (List.replicate k 250++zA.drop k)/\Bo.KV wA base (.slice (some ⟨gA,0,none⟩) 600 dX) wr) (fun i _=>600-(intOf i).toNat)
 case atStart=>exact⟨0,by omega,rfl,Cf.out,Bo.KV.refl _ _ _⟩
 case round=>
   obtain⟨k,hk,rfl,hO,hK⟩:=hrel
   by_cases hkn:k<600
   · have i1:(k:Int)<600:=by omega
     have hlen:(List.replicate k (250:Int)++zA.drop k).length=600:=by rw [List.length_append,List.length_replicate,List.length_drop,nN.out];omega
     obtain⟨g,hg0,hg,c0,f0,cP⟩:=Bo.gi (m:=250) hO (by rw [hlen];exact hkn)
     obtain rfl:gA=g:=by injection hg0 with hg0;injection hg0
     have HR:=aa (show(List.replicate k (250:Int)++zA.drop k).set k 250=List.replicate (k+1) 250++zA.drop (k+1) by
       have xw:k<zA.length:=by rw [nN.out];exact hkn
       rw [List.set_append_right _ _ (by simp),List.length_replicate,Nat.sub_self,List.drop_eq_getElem_cons xw,List.set_cons_zero,List.replicate_succ',List.append_assoc];rfl)
     replace hlen:=aa hlen
     generalize (List.replicate k (250:Int)++zA.drop k).getD k 0=zz at*
     replace cP:=aa cP
     replace hO:=aa hO
     clear hg0
     go_wp2
     go_roundw
     case rel=>exact⟨k+1,by omega,by go_num,(by rw [<-HR.out];exact cP.out),hK.step (Bo.At.self _ _) ((Below.refl _ _).setCell hg _) (fun kk _ q2=>Bo.cI (show kk≠gA from fun e=>q2 (by rw [e];rfl)))⟩
     case measure=>simp [intOf];omega
   · obtain rfl:k=600:=by omega
     clear hkn
     rw [List.drop_of_length_le (by rw [nN.out];exact Nat.le_refl _),List.append_nil]at hO
     have HK:=aa hK
     have iJ:Hid (∀wr,Bo.KV wA base (.slice (some ⟨gA,0,none⟩) 600 dX) wr->wr.heap[w.heap.size]? =some (.cells (aK 3 at_ nn m_ (.slice sp zr.length cap) bt) 38 (0,0))):=aa (fun wr q=>(q.2 _ (by have:=gF.out;omega) (fun e=>dH.out.2.2.1 (by simpa [Value.ownBlock]using e))).trans vo.out)
     have vr:Hid (∀wr,Bo.KV wA base (.slice (some ⟨gA,0,none⟩) 600 dX) wr-> ∀j,j<zr.length-> ∃b o,sp=some ⟨b,o,none⟩/\wr.cell? ⟨b,o+j,none⟩=some (.int .u8 (zr.getD j 0))):=aa (fun wr q j hj=>by
       obtain⟨_,_,b,o,_,h2,h3⟩:=lY.out
       refine⟨b,o,h2 (by omega),?_⟩
       have hb:=tD.out (by omega) _ (h2 (by omega))
       exact((kx.out.trans q.1).cell (p:=⟨b,o+j,none⟩) hb).trans (h3 j hj))
     have hkk:(kk:Int)<=300:=by omega
     go_wp2_with fail
     go_loopw [14] (fun i wr=> ∃(j:Nat) (zs:List Int),j<=kk/\i= .int .i64 j/\Own wr base (.slice (some ⟨gA,0,none⟩) 600 dX) zs/\zs.length=600/\aS zs/\zs=ja zr j/\Bo.KV wA base (.slice (some ⟨gA,0,none⟩) 600 dX) wr) (fun i _=>kk-(intOf i).toNat)
     case atStart=>exact⟨0,List.replicate 600 250,by omega,rfl,hO,by simp,(by intro x hx;rw [List.eq_of_mem_replicate hx];exact⟨by omega,by omega⟩),(by unfold ja;simp),HK.out⟩
     case round=>
       clear hO hK HK
       obtain⟨j,zs,hj,rfl,hO,hzl,hz8,hmx,hK⟩:=hrel
       have nR:=aa hmx
       clear hmx
       by_cases Ci:j<kk
       · have i1:(j:Int)<(kk:Int):=by omega
         have i2:(j:Int)<600:=by omega
         have i3:(j:Int)<(zr.length:Int):=by omega
         obtain⟨rb,ro,rfl,cr⟩:=vr.out _ hK j (by omega)
         have ck4:wr.cell? ⟨w.heap.size,4,none⟩=some (.slice (some ⟨rb,ro,none⟩) zr.length cap):=by rw [cell_of_row _ _ _ _ _ _ (iJ.out _ hK)];rfl
         have Cj:=aa (show zs.set j (zr.getD j 0)=ja zr (j+1) by rw [nR.out];exact qX zr j (by omega) (by omega))
         have hy8:0<=zr.getD j 0/\zr.getD j 0<256:=Al H8.out j
         generalize zr.getD j 0=y at*
         obtain⟨g,hg0,hg,c0,f0,cP⟩:=Bo.gi (k:=j) (m:=y) hO (by rw [hzl];omega)
         obtain rfl:gA=g:=by injection hg0 with hg0;injection hg0
         have HS8:Hid (aS (zs.set j y)):=aa (fun x hx=>by
           rcases List.mem_or_eq_of_mem_set hx with q| q
           · exact hz8 x q
           · rw [q];exact hy8)
         generalize zs.getD j 0=zz at*
         replace cP:=aa cP
         replace hO:=aa hO
         replace hzl:=aa hzl
         clear hg0 hz8 hy8
         go_wp2
         go_roundw
         case rel=>exact⟨j+1,zs.set j y,by omega,by go_num,cP.out,by rw [List.length_set];exact hzl.out,HS8.out,Cj.out,hK.step (Bo.At.self _ _) ((Below.refl _ _).setCell hg _) (fun kk2 _ q2=>Bo.cI (show kk2≠gA from fun e=>q2 (by rw [e];rfl)))⟩
         case measure=>simp [intOf];omega
       · obtain rfl:j=kk:=by omega
         clear Ci
         have ck2:wr.cell? ⟨w.heap.size,2,none⟩=some (.int .i64 nn):=by rw [cell_of_row _ _ _ _ _ _ (iJ.out _ hK)];rfl
         have HO:=aa hO
         have HK:=aa hK
         have HZ8:=aa hz8
         have eu:=aa hzl
         clear hO hK hz8 hzl
         have F5: ∀k,k<w.heap.size->k∉W.fp->wr.heap[k]? =w.heap[k]? :=fun k e1 e2=>(HK.out.2 k (by have:=gF.out;omega) (fun e=>(ky.out k e1 e2).1 (by simpa [Value.ownBlock]using e.symm))).trans (ky.out k e1 e2).2
         have nT: ∀k∈S.fp,k∉W.fp:=fun k hk q=>qh.out.off HH.out kJ.out q hk
         have lB:=HK.out.1.size
         have tG:=gF.out
         have nU:SK wr base S:=HH.out.lh (fun k hk=>F5 k (HH.out.cF hk).2 (nT k hk)) (by omega)
         have tH:WO wr base (W1 zs) (c+1):=kB.out _ _ _ _ HW0.out HO.out eu.out (fun k hk q=>HK.out.2 k hk (fun e=>q (by simpa [Value.ownBlock]using e.symm)))
         have oM:zs.take j=zr.take 300:=by rw [nR.out,oT _ _ (by omega)];exact qi.out
         have hdr:zs.drop j=List.replicate (600-j) 250:=by rw [nR.out,oU _ _ (by omega)]
         have tI:=aa oM
         have Ck:=aa hdr
         clear oM hdr
         have hlk:(zs.take j).length=j:=by rw [List.length_take,eu.out];omega
         have lp:Src wr (some ⟨gA,0,none⟩) dX (zs.take j):=by
           obtain⟨sx,cx,ex,⟨g1,g2,gb,go,g3,g4,g5⟩,_⟩:=HO.out.form
           injection ex with e1 _ e3
           subst e1 e3
           refine⟨by rw [hlk];omega,g2,gb,go,fun q=>g3 (by rw [eu.out];omega),fun q=>g4 (by rw [eu.out];omega),fun i hi=>?_⟩
           rw [hlk]at hi
           rw [fH _ _ _ _ hi]
           exact g5 i (by rw [eu.out];omega)
         have HST:=oP wr base S b nU HG.out (by omega) nn (zs.take j) (fun x hx=>HZ8.out x (List.mem_of_mem_take hx)) (by rw [hlk];omega) (some ⟨gA,0,none⟩) dX lp (fun e=>by cases e)
         rw [hlk]at HST
         replace HST:=aa HST
         have HF5:=aa F5
         have QJ:=aa nT
         have Co:=aa nU
         have nV:=aa tH
         have nZ:=aa hlk
         have lZ:=aa lB
         clear tG F5 nT lB nU tH hlk lp
         go_wp2_with fail
         refine HST.out.mono ?_
         rintro e w6 ⟨S',q,E,rfl,hX6,hO6⟩
         have HX6:=aa (show nH S nn (zr.take 300) S' q E by rw [<-tI.out];exact hX6)
         clear hX6
         have HO6:=aa hO6
         have HM6:Hid (WO w6 base (W1 zs) (c+1)/\gK (W1 zs) S'/\wr.heap.size<=w6.heap.size/\w6.heap[w.heap.size]? =some (.cells (aK 3 at_ nn m_ (.slice sp zr.length cap) bt) 38 (0,0))/\gA∉S'.fp/\Own w6 base (.slice (some ⟨gA,0,none⟩) 600 dX) zs):=aa (by
           obtain⟨_,hb,hf,hg⟩:=hO6
           have lB:=lZ.out
           have tG:=gF.out
           refine⟨nV.out.keep fun k hk=>hf.block k (nV.out.ty hk).2.1 (nV.out.off Co.out (fun k e=>(fE.out _ k e).2.1) hk),fun k e z=>?_,hf.size,(hf.block _ (by omega) (fun z=>by have:=(HH.out.cF z).2;omega)).trans (iJ.out _ HK.out),fun z=>?_,HO.out.of_heap fun k e=>?_⟩
           · rcases hg k z with z| z
             · exact(fE.out _ k e).2.1 z
             · have:=(fE.out _ k e).1;omega
           · rcases hg gA z with z| z
             · exact dH.out.2.1 z
             · have:=dH.out.1;omega
           · obtain rfl:gA=k:=by simpa [Value.ownBlock]using e
             exact hf.block _ (by have:=dH.out.1;omega) dH.out.2.1)
         have HBW6:Hid (Below base w w6):=aa ((kx.out.trans HK.out.1).trans hO6.2.1)
         have k46:w6.cell? ⟨w.heap.size,4,none⟩=some (.slice sp zr.length cap):=by rw [cell_of_row _ _ _ _ _ _ HM6.out.2.2.2.1];rfl
         have hsrc6:Src w6 sp cap zr:=by
           obtain⟨g1,g2,gb,go,g3,g4,g5⟩:=lY.out
           have hsz:=HBW6.out.size
           exact⟨g1,g2,gb,go,fun q=>by have:=g3 q;omega,g4,fun i hi=>(HBW6.out.cell (p:=⟨gb,go+i,none⟩) (show gb<base from tD.out (by omega) ⟨gb,go,none⟩ (g4 (by omega)))).trans (g5 i hi)⟩
         have HSH6:=aa (eZ w6 zr sp cap hsrc6 (by have:=jk.out;omega) 300 (by omega))
         clear hO6 HST hsrc6 ck2
         go_wp2_with fail
         refine HSH6.out.mono ?_
         rintro e w7 ⟨v7,rfl,hO7,hb7⟩
         obtain⟨s7,c7,rfl,hsrc7,_⟩:=hO7.form
         have HB7:=aa hb7
         have hsrcA7:Src w7 (some ⟨gA,0,none⟩) dX (zs.take j):=by
           have hO:=HM6.out.2.2.2.2.2.below hb7 (Nat.le_refl _)
           obtain⟨sx,cx,ex,⟨g1,g2,gb,go,g3,g4,g5⟩,_⟩:=hO.form
           injection ex with e1 _ e3
           subst e1 e3
           refine⟨by rw [nZ.out];omega,g2,gb,go,fun q=>g3 (by show 0<zs.length;rw [eu.out];omega),fun q=>g4 (by show 0<zs.length;rw [eu.out];omega),fun i hi=>?_⟩
           rw [nZ.out]at hi
           rw [fH _ _ _ _ hi]
           exact g5 i (by show i<zs.length;rw [eu.out];omega)
         have iz:=kg w7 (zs.take j) (zr.take 300) (some ⟨gA,0,none⟩) s7 dX c7 hsrcA7 hsrc7
         rw [nZ.out,List.length_take,decide_eq_true tI.out]at iz
         replace iz:=aa iz
         clear hO7 hb7 hsrc7 hsrcA7
         go_wp2_with fail
         refine iz.out.mono ?_
         rintro e w8 ⟨rfl,hb8⟩
         have HB8:=aa hb8
         clear hb8
         have ux:Hid (∀wX,Below base w6 wX->(∀k,k<w6.heap.size->k≠gA->wX.heap[k]? =w6.heap[k]?)->(∃z,Own wX base (.slice (some ⟨gA,0,none⟩) 600 dX) z/\z.length=600)->wX.heap[w.heap.size+1]? =some (.cells cf 46 (0,0))/\iZ w base S 3 nn zr W c (.returned (.agg (cT E q (.slice none 0 0) sup0 0 0 0 0 0))) (wX.setRow (w.heap.size+1) (cT E q (.slice none 0 0) sup0 0 0 0 0 0))):=aa (fun wX qj hkX ⟨z,Cp,Cq⟩=>by
           have e1:=gF.out
           have e2:=lZ.out
           have e3:=HM6.out.2.2.1
           have e4:=dH.out.1
           obtain⟨hS6,_,hf6,_⟩:=HO6.out
           have nS: ∀k∈S'.fp,k≠gA:=fun k hk q=>HM6.out.2.2.2.2.1 (q▸hk)
           have nW: ∀k,k<w.heap.size->k∉W.fp->k≠gA:=fun k l hk=>(ky.out k l hk).1
           have Cr:WO wX base (W1 z) (c+1):=kB.out _ _ _ _ HM6.out.1 Cp Cq hkX
           have ha:wX.heap[w.heap.size+1]? =some (.cells cf 46 (0,0)):=by
             refine(hkX _ (by omega) (fun q=>dH.out.2.2.2 q.symm)).trans ((hf6.block _ (by omega) (fun q=>by have:=(HH.out.cF q).2;omega)).trans ((HK.out.2 _ (by omega) (fun q=>dH.out.2.2.2 (by simpa [Value.ownBlock]using q))).trans vq.out))
           refine⟨ha,?_⟩
           have fL: ∀k,(W1 z).room.ownBlock=some k->k∉S'.fp/\k≠w.heap.size+1:=fun k q=>by
             refine⟨fun q2=>?_,(fE.out _ k q).2.2⟩
             obtain⟨_,_,_,hg⟩:=HO6.out
             rcases hg k q2 with z| z
             · exact(fE.out _ k q).2.1 z
             · have:=(fE.out _ k q).1;omega
           obtain⟨z1,z2,z3,z4,z5,z6⟩:=qV HH.out HF5.out (kx.out.trans HK.out.1) (by omega) HO6.out (fun k hk=>hkX k (hS6.cF hk).2 (nS k hk)) (fun k l1 l2=>hkX k (by omega) (nW k l1 l2)) qj Cr ha fL (cT E q (.slice none 0 0) sup0 0 0 0 0 0)
           exact⟨S',W1 z,E,q, .slice none 0 0,[],sup0,0,0,0,0,0,rfl,⟨Own.nil _ _,fun k e=>by simp [Value.ownBlock]at e⟩,Or.inr (Or.inl ⟨rfl,HX6.out,rfl,rfl,rfl⟩),z1,z2,z3,(nQ.out _).1,z4,z5,z6,(nQ.out _).2⟩)
         have vt:Hid (∀wX,Below w6.heap.size w6 wX-> ∃z,Own wX base (.slice (some ⟨gA,0,none⟩) 600 dX) z/\z.length=600):=aa (fun wX q=>by
           have hO:=HM6.out.2.2.2.2.2.below q (Nat.le_refl _)
           exact⟨_,hO,eu.out⟩)
         have HB68:Hid (Below w6.heap.size w6 w8):=aa (HB7.out.trans (HB8.out.mono HB7.out.size))
         have vw:Hid (base<=w6.heap.size):=aa (Nat.le_trans HH.out.base HBW6.out.size)
         have lq:Src w8 (some ⟨gA,j,none⟩) (dX-j) (zs.drop j):=by
           have hO:=HM6.out.2.2.2.2.2.below HB68.out (Nat.le_refl _)
           obtain⟨sx,cx,ex,⟨g1,g2,gb,go,g3,g4,g5⟩,_⟩:=hO.form
           injection ex with e1 _ e3
           subst e1 e3
           have e6:zs.length=600:=eu.out
           replace g1:zs.length<=dX:=g1
           replace g3:0<zs.length->gb<w8.heap.size:=g3
           replace g4:0<zs.length->some (⟨gA,0,none⟩:Addr)=some (⟨gb,go,none⟩:Addr):=g4
           replace g5: ∀i,i<zs.length->w8.cell? ⟨gb,go+i,none⟩=some (.int .u8 (zs.getD i 0)):=g5
           have e7:=g4 (by omega)
           injection e7 with e7
           injection e7 with e8 e9 _
           subst e8 e9
           refine⟨by rw [List.length_drop];omega,by omega,gA,j,fun _=>g3 (by omega),fun _=>rfl,fun i hi=>?_⟩
           rw [List.length_drop]at hi
           have:=g5 (j+i) (by omega)
           rw [Nat.zero_add]at this
           rw [this]
           simp [List.getD,List.getElem?_drop]
         have jH:=qU w8 (zs.drop j) (some ⟨gA,j,none⟩) (dX-j) lq 250 (600-j) (by rw [List.length_drop,eu.out]) (by omega) (fun i hi=>by rw [Ck.out,List.getD_eq_getElem?_getD,List.getElem?_replicate,if_pos hi];rfl)
         rw [show((600-j:Nat):Int)=600-(j:Int) by omega]at jH
         replace jH:=aa jH
         clear lq
         go_wp2_with fail
         refine jH.out.mono ?_
         rintro e w9 ⟨rfl,hb9⟩
         have HB69:Hid (Below w6.heap.size w6 w9):=aa (HB68.out.trans (hb9.mono HB68.out.size))
         clear hb9 jH
         obtain⟨z9,hz9,hl9⟩:=vt.out w9 HB69.out
         go_wp2_with fail
         go_loopw [18] (fun i wr=> ∃(t:Nat) (z:List Int),t<=j/\i= .int .i64 t/\Own wr base (.slice (some ⟨gA,0,none⟩) 600 dX) z/\z.length=600/\Bo.KV w9 base (.slice (some ⟨gA,0,none⟩) 600 dX) wr) (fun i _=>j-(intOf i).toNat)
         case atStart=>exact⟨0,z9,by omega,rfl,hz9,hl9,Bo.KV.refl _ _ _⟩
         case round=>
           clear hz9 hl9
           obtain⟨t,z,ht,rfl,hO,hzl,hK9⟩:=hrel
           by_cases xx:t<j
           · have i1:(t:Int)<(j:Int):=by omega
             obtain⟨g,hg0,hg,c0,f0,cP⟩:=Bo.gi (k:=t) (m:=251) hO (by rw [hzl];omega)
             obtain rfl:gA=g:=by injection hg0 with hg0;injection hg0
             generalize z.getD t 0=zz at*
             replace cP:=aa cP
             replace hO:=aa hO
             replace hzl:=aa hzl
             clear hg0
             go_wp2
             go_roundw
             case rel=>exact⟨t+1,z.set t 251,by omega,by go_num,cP.out,by rw [List.length_set];exact hzl.out,hK9.step (Bo.At.self _ _) ((Below.refl _ _).setCell hg _) (fun kk2 _ q2=>Bo.cI (show kk2≠gA from fun e=>q2 (by rw [e];rfl)))⟩
             case measure=>simp [intOf];omega
           · obtain rfl:t=j:=by omega
             clear xx
             have H9:=aa (ux.out _ ((HB69.out.mono vw.out).trans hK9.1) (fun k q r=>(hK9.2 k (Nat.lt_of_lt_of_le q HB69.out.size) (fun e=>r (by simpa [Value.ownBlock]using e.symm))).trans (HB69.out.block k q)) ⟨z,hO,hzl⟩)
             have HS0:=aa (show cf.size=(cT E q (.slice none 0 0) sup0 0 0 0 0 0).size from rfl)
             have iO:=aa (oQ E q none 0 0 sup0 0 0 0 0 0)
             have iP:=aa (ia E q (.slice none 0 0) sup0 0 0 0 0 0)
             go_wp2_with (first| (refine wpList_store_row rfl 46 (.tmp 6) (.tmp 187) rfl (w.heap.size+1) (cT E q (.slice none 0 0) sup0 0 0 0 0 0) rfl rfl 46 cf H9.out.1 iP.out HS0.out iO.out ?_)| fail)
             refine bodyPost_ret (bf Tryz.results24 _ _ (w.heap.size+1) 46 _ _ _ (by first| rfl| simp) (setRow_heap _ _ _ _ _ _ H9.out.1) Tryz.underlying46 rfl (ia _ _ _ _ _ _ _ _ _)) rfl ?_
             exact H9.out.2
theorem Cs(w:World)(base:Nat)(S:au)(b:Nat)(h:SK w base S)(G:Gd S b)(hb:b<=1000000000)(W:Wr)(c:Nat)(hW:WO w base W c)(hr:gK W S)(hc:c<=1000000000)(at_ nn m_:Int)(zr:List Int)(h8:aS zr)(hl:zr.length<=140737488352000)(rI:W.zr.length=600)(hq:(((W.turn:Int)+1)%2==0)=true)(sp:Option Addr)(l cap bt:Nat)(hlz:l=zr.length)(hS:Src w sp cap zr)(eD:0<zr.length-> ∀a,sp=some a->a.block<base):
   Calls Tryz.prog 24 #[.pointer (some ⟨W.g,0,none⟩), .pointer (some ⟨S.st,0,none⟩), .agg (aK 3 at_ nn m_ (.slice sp l cap) bt)] w (iZ w base S 3 nn zr W c):=by
 obtain⟨w2,hw2⟩: ∃w2,w2=(w.alloc (.cells (aK 3 at_ nn m_ (.slice sp l cap) bt) 38)).alloc (.cells #[.int .i64 0, .int .i64 0, .bool false, .slice none 0 0, .int .i64 0, .int .i64 0, .int .i64 0, .int .i64 0, .int .i64 0, .int .i64 0, .int .i64 0, .int .i64 0, .int .i64 0, .int .i64 0, .int .i64 0, .int .i64 0, .int .i64 0, .int .i64 0] 46):=⟨_,rfl⟩
 have HW2:=aa hw2
 have hP:Pn w w2 (aK 3 at_ nn m_ (.slice sp l cap) bt):=by rw [hw2];exact Pn.mk' w _
 have k0:w2.cell? ⟨w.heap.size,0,none⟩=some (.int .i64 3):=by rw [cell_of_row _ _ _ _ _ _ hP.op];rfl
 have k2:w2.cell? ⟨w.heap.size,2,none⟩=some (.int .i64 nn):=by rw [cell_of_row _ _ _ _ _ _ hP.op];rfl
 have h2:=h.below hP.bl
 have k4:w2.cell? ⟨w.heap.size,4,none⟩=some (.slice sp l cap):=by rw [cell_of_row _ _ _ _ _ _ hP.op];rfl
 subst hlz
 have iD:=aa (eZ w2 zr sp cap (hS.below hP.bl (Nat.le_refl _)) (by omega) 300 (by omega))
 have hW2:=hW.below hP.bl
 have HP:=aa hP
 have HH:=aa h
 have qh:=aa hW
 have kJ:=aa hr
 have lY:=aa hS
 have tD:=aa eD
 have H8:=aa h8
 have jk:=aa hl
 have xA:=aa hW.tu
 have mv:=aa (fun k hk=>(hW.ty (k:=k) hk).2.1)
 have HG:=aa G
 clear h h2 hW hr hP G hS eD h8 hl
 rw [hw2]at k0 k2 k4
 clear hw2
 go_enter Tryz.func24,Tryz.ntmps24
 go_wp2_with (first
   | refine cQ rfl (.tmp 2) rfl _ at_ nn m_ sp l cap bt rfl ?_)
 rw [<-HW2.out]
 refine iD.out.mono ?_
 rintro e w3 ⟨v3,rfl,hO3,hb3⟩
 obtain⟨s3,c3,rfl,_,_⟩:=hO3.form
 have hk3:(zr.take 300).length<=300:=by rw [List.length_take];omega
 have hk4:(zr.take 300).length<=zr.length:=by rw [List.length_take];omega
 have hkk0:zr.take (zr.take 300).length=zr.take 300:=oV zr
 generalize (zr.take 300).length=kk at*
 have qi:=aa hkk0
 clear hkk0
 have hW3:=hW2.below hb3
 obtain⟨_,_,_,c5,_,f5⟩:=hW3.cells
 have Ji:=f5 5
 clear f5
 have lj:=hW3.turned
 obtain⟨_,_,_,d5,d6,df⟩:=lj.cells
 have df6:=df 6
 clear df
 have Ev:(W.turn:Int)<=1000000000:=by have:=xA.out;omega
 have hti0:(0:Int)<=(W.turn:Int):=by omega
 have Ex:(w3.setCell ⟨W.g,5,none⟩ (.int .i64 ((W.turn:Int)+1))).cell? ⟨W.g,5,none⟩=some (.int .i64 ((W.turn:Int)+1)):=d5
 have xE:=aa lj
 have HB3:=aa hb3
 have fL:=lj.rm
 have Jn:=aa fL
 obtain⟨oW,dX,hR,_,_⟩:=fL.form
 have hR2:W.room= .slice oW W.zr.length dX:=hR
 have uL:(w3.setCell ⟨W.g,5,none⟩ (.int .i64 ((W.turn:Int)+1))).cell? ⟨W.g,6,none⟩=some (.slice oW W.zr.length dX):=d6.trans (by rw [<-hR2])
 have qY:=aa hR2
 clear d5 d6 hO3 hb3 hW3 lj hW2 iD k0 k2 k4 fL hR hR2
 rw [rI]at uL
 obtain⟨i5,hi5,hz5,hs5,hy5⟩:=Tryz.info5
 have HI:=aa hi5
 have K1:=aa (show i5.bytes*600<=281474976710656 by rw [hy5];omega)
 have K2:=aa (show 600<=maxLen by unfold maxLen;omega)
 clear hi5 hy5
 have HB0:=aa HH.out.base
 have hgl2:=mv.out W.g ((W.mem _).2 (by simp))
 have Cg:=HP.out.sz
 have Ch:=HB3.out.size
 go_wp2_with (refine wpList_make_full _ rfl _ _ 31 rfl (w3.setCell ⟨W.g,5,none⟩ (.int .i64 ((W.turn:Int)+1))).heap.size 5 i5 (.int .u8 0) 1 Tryz.underlying31 HI.out hz5 hs5 .i64 .i64 _ _ 600 rfl rfl rfl rfl K1.out K2.out (Nat.le_refl _) ?_;intro wA hO hg;refine Hid.out ?_)
 refine aa ?_
 have hs0:(w3.setCell ⟨W.g,5,none⟩ (.int .i64 ((W.turn:Int)+1))).heap.size=w3.heap.size:=World.size_setCell ..
 have bA:Below (w3.setCell ⟨W.g,5,none⟩ (.int .i64 ((W.turn:Int)+1))).heap.size (w3.setCell ⟨W.g,5,none⟩ (.int .i64 ((W.turn:Int)+1))) wA:=dx hg (fun k hk=>by cases hk) (Nat.le_refl _)
 have ll: ∀k,k<w3.heap.size->k≠W.g->wA.heap[k]? =w3.heap[k]? :=fun k l e=>(bA.block k (by omega)).trans (heap_setCell_other w3 ⟨W.g,5,none⟩ k _ e)
 obtain⟨zA,oX⟩: ∃zA,zA=dB [] 600:=⟨_,rfl⟩
 have hz6:zA.length=600:=by rw [oX];exact ua 600
 have xF:=qW wA base (w3.setCell ⟨W.g,5,none⟩ (.int .i64 ((W.turn:Int)+1))).heap.size 600 (by have:=HB0.out;omega) K2.out (gw hO)
 have hlt:=aC (gw hO)
 rw [<-oX]at xF
 clear hO
 rw [hs0]at xF hlt bA
 try rw [hs0]
 generalize tE:w3.heap.size=gA at*
 have nN:=aa hz6
 have Cf:=aa xF
 have hcap600:(600:Int)<=((600:Nat):Int):=by omega
 have gF:Hid (w.heap.size+2<=wA.heap.size):=aa (by omega)
 have kx:Hid (Below base w wA):=aa (by
   have cX:=HH.out.base
   exact(((HP.out.bl.mono cX).trans (HB3.out.mono (Nat.le_trans cX HP.out.bl.size))).setCell qh.out.hg _).trans (bA.mono (by omega)))
 have dH:Hid (gA<wA.heap.size/\gA∉S.fp/\gA≠w.heap.size/\gA≠w.heap.size+1):=aa ⟨by omega,fun q=>by have:=(HH.out.cF q).2;omega,by omega,by omega⟩
 have vo:Hid (wA.heap[w.heap.size]? =some (.cells (aK 3 at_ nn m_ (.slice sp zr.length cap) bt) 38 (0,0))):=aa ((ll _ (by omega) (by omega)).trans ((HB3.out.block _ (by omega)).trans HP.out.op))
 have vq:Hid (wA.heap[w.heap.size+1]? =some (.cells cf 46 (0,0))):=aa ((ll _ (by omega) (by omega)).trans ((HB3.out.block _ (by omega)).trans HP.out.an))
 have ky:Hid (∀k,k<w.heap.size->k∉W.fp->k≠gA/\wA.heap[k]? =w.heap[k]?):=aa (fun k e1 e2=>⟨by omega,(ll k (by omega) (fun e=>e2 ((W.mem _).2 (by simp [e])))).trans ((HB3.out.block k (by omega)).trans (HP.out.bl.block k e1))⟩)
 obtain⟨W1,hW0,tF,nO,nP⟩: ∃W1:List Int->Wr,WO wA base (W1 zA) (c+1)/\(∀(wa wb:World) (z z':List Int),WO wa base (W1 z) (c+1)->Own wb base (.slice (some ⟨gA,0,none⟩) 600 600) z'->z'.length=600->(∀k,k<wa.heap.size->k≠gA->wb.heap[k]? =wa.heap[k]?)->WO wb base (W1 z') (c+1))/\(∀z,((W1 z).g=W.g/\(W1 z).dl=W.dl/\(W1 z).tl=W.tl)/\ ∀k∈(W1 z).fp,k∈W.fp\/w.heap.size<=k)/\(∀z k,(W1 z).room.ownBlock=some k->k<wA.heap.size/\k∉S.fp/\k≠w.heap.size+1):=by
   refine⟨fun z=>{W with turn:=W.turn+1},xE.out.below (by rw [World.size_setCell,tE];exact bA),fun wa wb z z' h1 h2 h3 h4=>h1.keep fun k hk=>h4 k (h1.ty hk).2.1 (fun e=>?_),fun z=>⟨⟨rfl,rfl,rfl⟩,fun k hk=>Or.inl hk⟩,fun z k e=>?_⟩
   · have:=mv.out k hk;omega
   · have e2:W.room.ownBlock=some k:=e
     have:=mv.out k ((W.mem _).2 (by simp [e2]));exact⟨by omega,kJ.out k e2,by omega⟩
 have HW0:=aa hW0
 have kB:=aa tF
 have nQ:=aa nO
 have fE:=aa nP
 clear hW0 tF nO nP hgl2 Cg Ch ll oX hz6 xF hs0 bA hg hlt tE Ex uL df6
 go_wp2_with fail
 go_loopw [13] (fun i wr=> ∃k:Nat,k<=600/\i= .int .i64 k/\Own wr base (.slice (some ⟨gA,0,none⟩) 600 600) (List.replicate k 250++zA.drop k)/\Bo.KV wA base (.slice (some ⟨gA,0,none⟩) 600 600) wr) (fun i _=>600-(intOf i).toNat)
 case atStart=>exact⟨0,by omega,rfl,Cf.out,Bo.KV.refl _ _ _⟩
 case round=>
   obtain⟨k,hk,rfl,hO,hK⟩:=hrel
   by_cases hkn:k<600
   · have i1:(k:Int)<600:=by omega
     have hlen:(List.replicate k (250:Int)++zA.drop k).length=600:=by rw [List.length_append,List.length_replicate,List.length_drop,nN.out];omega
     obtain⟨g,hg0,hg,c0,f0,cP⟩:=Bo.gi (m:=250) hO (by rw [hlen];exact hkn)
     obtain rfl:gA=g:=by injection hg0 with hg0;injection hg0
     have HR:=aa (show(List.replicate k (250:Int)++zA.drop k).set k 250=List.replicate (k+1) 250++zA.drop (k+1) by
       have xw:k<zA.length:=by rw [nN.out];exact hkn
       rw [List.set_append_right _ _ (by simp),List.length_replicate,Nat.sub_self,List.drop_eq_getElem_cons xw,List.set_cons_zero,List.replicate_succ',List.append_assoc];rfl)
     replace hlen:=aa hlen
     generalize (List.replicate k (250:Int)++zA.drop k).getD k 0=zz at*
     replace cP:=aa cP
     replace hO:=aa hO
     clear hg0
     go_wp2
     go_roundw
     case rel=>exact⟨k+1,by omega,by go_num,(by rw [<-HR.out];exact cP.out),hK.step (Bo.At.self _ _) ((Below.refl _ _).setCell hg _) (fun kk _ q2=>Bo.cI (show kk≠gA from fun e=>q2 (by rw [e];rfl)))⟩
     case measure=>simp [intOf];omega
   · obtain rfl:k=600:=by omega
     clear hkn
     rw [List.drop_of_length_le (by rw [nN.out];exact Nat.le_refl _),List.append_nil]at hO
     have HK:=aa hK
     have iJ:Hid (∀wr,Bo.KV wA base (.slice (some ⟨gA,0,none⟩) 600 600) wr->wr.heap[w.heap.size]? =some (.cells (aK 3 at_ nn m_ (.slice sp zr.length cap) bt) 38 (0,0))):=aa (fun wr q=>(q.2 _ (by have:=gF.out;omega) (fun e=>dH.out.2.2.1 (by simpa [Value.ownBlock]using e))).trans vo.out)
     have vr:Hid (∀wr,Bo.KV wA base (.slice (some ⟨gA,0,none⟩) 600 600) wr-> ∀j,j<zr.length-> ∃b o,sp=some ⟨b,o,none⟩/\wr.cell? ⟨b,o+j,none⟩=some (.int .u8 (zr.getD j 0))):=aa (fun wr q j hj=>by
       obtain⟨_,_,b,o,_,h2,h3⟩:=lY.out
       refine⟨b,o,h2 (by omega),?_⟩
       have hb:=tD.out (by omega) _ (h2 (by omega))
       exact((kx.out.trans q.1).cell (p:=⟨b,o+j,none⟩) hb).trans (h3 j hj))
     have hkk:(kk:Int)<=300:=by omega
     go_wp2_with fail
     go_loopw [14] (fun i wr=> ∃(j:Nat) (zs:List Int),j<=kk/\i= .int .i64 j/\Own wr base (.slice (some ⟨gA,0,none⟩) 600 600) zs/\zs.length=600/\aS zs/\zs=ja zr j/\Bo.KV wA base (.slice (some ⟨gA,0,none⟩) 600 600) wr) (fun i _=>kk-(intOf i).toNat)
     case atStart=>exact⟨0,List.replicate 600 250,by omega,rfl,hO,by simp,(by intro x hx;rw [List.eq_of_mem_replicate hx];exact⟨by omega,by omega⟩),(by unfold ja;simp),HK.out⟩
     case round=>
       clear hO hK HK
       obtain⟨j,zs,hj,rfl,hO,hzl,hz8,hmx,hK⟩:=hrel
       have nR:=aa hmx
       clear hmx
       by_cases Ci:j<kk
       · have i1:(j:Int)<(kk:Int):=by omega
         have i2:(j:Int)<600:=by omega
         have i3:(j:Int)<(zr.length:Int):=by omega
         obtain⟨rb,ro,rfl,cr⟩:=vr.out _ hK j (by omega)
         have ck4:wr.cell? ⟨w.heap.size,4,none⟩=some (.slice (some ⟨rb,ro,none⟩) zr.length cap):=by rw [cell_of_row _ _ _ _ _ _ (iJ.out _ hK)];rfl
         have Cj:=aa (show zs.set j (zr.getD j 0)=ja zr (j+1) by rw [nR.out];exact qX zr j (by omega) (by omega))
         have hy8:0<=zr.getD j 0/\zr.getD j 0<256:=Al H8.out j
         generalize zr.getD j 0=y at*
         obtain⟨g,hg0,hg,c0,f0,cP⟩:=Bo.gi (k:=j) (m:=y) hO (by rw [hzl];omega)
         obtain rfl:gA=g:=by injection hg0 with hg0;injection hg0
         have HS8:Hid (aS (zs.set j y)):=aa (fun x hx=>by
           rcases List.mem_or_eq_of_mem_set hx with q| q
           · exact hz8 x q
           · rw [q];exact hy8)
         generalize zs.getD j 0=zz at*
         replace cP:=aa cP
         replace hO:=aa hO
         replace hzl:=aa hzl
         clear hg0 hz8 hy8
         go_wp2
         go_roundw
         case rel=>exact⟨j+1,zs.set j y,by omega,by go_num,cP.out,by rw [List.length_set];exact hzl.out,HS8.out,Cj.out,hK.step (Bo.At.self _ _) ((Below.refl _ _).setCell hg _) (fun kk2 _ q2=>Bo.cI (show kk2≠gA from fun e=>q2 (by rw [e];rfl)))⟩
         case measure=>simp [intOf];omega
       · obtain rfl:j=kk:=by omega
         clear Ci
         have ck2:wr.cell? ⟨w.heap.size,2,none⟩=some (.int .i64 nn):=by rw [cell_of_row _ _ _ _ _ _ (iJ.out _ hK)];rfl
         have HO:=aa hO
         have HK:=aa hK
         have HZ8:=aa hz8
         have eu:=aa hzl
         clear hO hK hz8 hzl
         have F5: ∀k,k<w.heap.size->k∉W.fp->wr.heap[k]? =w.heap[k]? :=fun k e1 e2=>(HK.out.2 k (by have:=gF.out;omega) (fun e=>(ky.out k e1 e2).1 (by simpa [Value.ownBlock]using e.symm))).trans (ky.out k e1 e2).2
         have nT: ∀k∈S.fp,k∉W.fp:=fun k hk q=>qh.out.off HH.out kJ.out q hk
         have lB:=HK.out.1.size
         have tG:=gF.out
         have nU:SK wr base S:=HH.out.lh (fun k hk=>F5 k (HH.out.cF hk).2 (nT k hk)) (by omega)
         have tH:WO wr base (W1 zs) (c+1):=kB.out _ _ _ _ HW0.out HO.out eu.out (fun k hk q=>HK.out.2 k hk (fun e=>q (by simpa [Value.ownBlock]using e.symm)))
         have oM:zs.take j=zr.take 300:=by rw [nR.out,oT _ _ (by omega)];exact qi.out
         have hdr:zs.drop j=List.replicate (600-j) 250:=by rw [nR.out,oU _ _ (by omega)]
         have tI:=aa oM
         have Ck:=aa hdr
         clear oM hdr
         have hlk:(zs.take j).length=j:=by rw [List.length_take,eu.out];omega
         have lp:Src wr (some ⟨gA,0,none⟩) 600 (zs.take j):=by
           obtain⟨sx,cx,ex,⟨g1,g2,gb,go,g3,g4,g5⟩,_⟩:=HO.out.form
           injection ex with e1 _ e3
           subst e1 e3
           refine⟨by rw [hlk];omega,g2,gb,go,fun q=>g3 (by rw [eu.out];omega),fun q=>g4 (by rw [eu.out];omega),fun i hi=>?_⟩
           rw [hlk]at hi
           rw [fH _ _ _ _ hi]
           exact g5 i (by rw [eu.out];omega)
         have HST:=oP wr base S b nU HG.out (by omega) nn (zs.take j) (fun x hx=>HZ8.out x (List.mem_of_mem_take hx)) (by rw [hlk];omega) (some ⟨gA,0,none⟩) 600 lp (fun e=>by cases e)
         rw [hlk]at HST
         replace HST:=aa HST
         have HF5:=aa F5
         have QJ:=aa nT
         have Co:=aa nU
         have nV:=aa tH
         have nZ:=aa hlk
         have lZ:=aa lB
         clear tG F5 nT lB nU tH hlk lp
         go_wp2_with fail
         refine HST.out.mono ?_
         rintro e w6 ⟨S',q,E,rfl,hX6,hO6⟩
         have HX6:=aa (show nH S nn (zr.take 300) S' q E by rw [<-tI.out];exact hX6)
         clear hX6
         have HO6:=aa hO6
         have HM6:Hid (WO w6 base (W1 zs) (c+1)/\gK (W1 zs) S'/\wr.heap.size<=w6.heap.size/\w6.heap[w.heap.size]? =some (.cells (aK 3 at_ nn m_ (.slice sp zr.length cap) bt) 38 (0,0))/\gA∉S'.fp/\Own w6 base (.slice (some ⟨gA,0,none⟩) 600 600) zs):=aa (by
           obtain⟨_,hb,hf,hg⟩:=hO6
           have lB:=lZ.out
           have tG:=gF.out
           refine⟨nV.out.keep fun k hk=>hf.block k (nV.out.ty hk).2.1 (nV.out.off Co.out (fun k e=>(fE.out _ k e).2.1) hk),fun k e z=>?_,hf.size,(hf.block _ (by omega) (fun z=>by have:=(HH.out.cF z).2;omega)).trans (iJ.out _ HK.out),fun z=>?_,HO.out.of_heap fun k e=>?_⟩
           · rcases hg k z with z| z
             · exact(fE.out _ k e).2.1 z
             · have:=(fE.out _ k e).1;omega
           · rcases hg gA z with z| z
             · exact dH.out.2.1 z
             · have:=dH.out.1;omega
           · obtain rfl:gA=k:=by simpa [Value.ownBlock]using e
             exact hf.block _ (by have:=dH.out.1;omega) dH.out.2.1)
         have HBW6:Hid (Below base w w6):=aa ((kx.out.trans HK.out.1).trans hO6.2.1)
         have k46:w6.cell? ⟨w.heap.size,4,none⟩=some (.slice sp zr.length cap):=by rw [cell_of_row _ _ _ _ _ _ HM6.out.2.2.2.1];rfl
         have hsrc6:Src w6 sp cap zr:=by
           obtain⟨g1,g2,gb,go,g3,g4,g5⟩:=lY.out
           have hsz:=HBW6.out.size
           exact⟨g1,g2,gb,go,fun q=>by have:=g3 q;omega,g4,fun i hi=>(HBW6.out.cell (p:=⟨gb,go+i,none⟩) (show gb<base from tD.out (by omega) ⟨gb,go,none⟩ (g4 (by omega)))).trans (g5 i hi)⟩
         have HSH6:=aa (eZ w6 zr sp cap hsrc6 (by have:=jk.out;omega) 300 (by omega))
         clear hO6 HST hsrc6 ck2
         go_wp2_with fail
         refine HSH6.out.mono ?_
         rintro e w7 ⟨v7,rfl,hO7,hb7⟩
         obtain⟨s7,c7,rfl,hsrc7,_⟩:=hO7.form
         have HB7:=aa hb7
         have hsrcA7:Src w7 (some ⟨gA,0,none⟩) 600 (zs.take j):=by
           have hO:=HM6.out.2.2.2.2.2.below hb7 (Nat.le_refl _)
           obtain⟨sx,cx,ex,⟨g1,g2,gb,go,g3,g4,g5⟩,_⟩:=hO.form
           injection ex with e1 _ e3
           subst e1 e3
           refine⟨by rw [nZ.out];omega,g2,gb,go,fun q=>g3 (by show 0<zs.length;rw [eu.out];omega),fun q=>g4 (by show 0<zs.length;rw [eu.out];omega),fun i hi=>?_⟩
           rw [nZ.out]at hi
           rw [fH _ _ _ _ hi]
           exact g5 i (by show i<zs.length;rw [eu.out];omega)
         have iz:=kg w7 (zs.take j) (zr.take 300) (some ⟨gA,0,none⟩) s7 600 c7 hsrcA7 hsrc7
         rw [nZ.out,List.length_take,decide_eq_true tI.out]at iz
         replace iz:=aa iz
         clear hO7 hb7 hsrc7 hsrcA7
         go_wp2_with fail
         refine iz.out.mono ?_
         rintro e w8 ⟨rfl,hb8⟩
         have HB8:=aa hb8
         clear hb8
         have ux:Hid (∀wX,Below base w6 wX->(∀k,k<w6.heap.size->k≠gA->wX.heap[k]? =w6.heap[k]?)->(∃z,Own wX base (.slice (some ⟨gA,0,none⟩) 600 600) z/\z.length=600)->wX.heap[w.heap.size+1]? =some (.cells cf 46 (0,0))/\iZ w base S 3 nn zr W c (.returned (.agg (cT E q (.slice none 0 0) sup0 0 0 0 0 0))) (wX.setRow (w.heap.size+1) (cT E q (.slice none 0 0) sup0 0 0 0 0 0))):=aa (fun wX qj hkX ⟨z,Cp,Cq⟩=>by
           have e1:=gF.out
           have e2:=lZ.out
           have e3:=HM6.out.2.2.1
           have e4:=dH.out.1
           obtain⟨hS6,_,hf6,_⟩:=HO6.out
           have nS: ∀k∈S'.fp,k≠gA:=fun k hk q=>HM6.out.2.2.2.2.1 (q▸hk)
           have nW: ∀k,k<w.heap.size->k∉W.fp->k≠gA:=fun k l hk=>(ky.out k l hk).1
           have Cr:WO wX base (W1 z) (c+1):=kB.out _ _ _ _ HM6.out.1 Cp Cq hkX
           have ha:wX.heap[w.heap.size+1]? =some (.cells cf 46 (0,0)):=by
             refine(hkX _ (by omega) (fun q=>dH.out.2.2.2 q.symm)).trans ((hf6.block _ (by omega) (fun q=>by have:=(HH.out.cF q).2;omega)).trans ((HK.out.2 _ (by omega) (fun q=>dH.out.2.2.2 (by simpa [Value.ownBlock]using q))).trans vq.out))
           refine⟨ha,?_⟩
           have fL: ∀k,(W1 z).room.ownBlock=some k->k∉S'.fp/\k≠w.heap.size+1:=fun k q=>by
             refine⟨fun q2=>?_,(fE.out _ k q).2.2⟩
             obtain⟨_,_,_,hg⟩:=HO6.out
             rcases hg k q2 with z| z
             · exact(fE.out _ k q).2.1 z
             · have:=(fE.out _ k q).1;omega
           obtain⟨z1,z2,z3,z4,z5,z6⟩:=qV HH.out HF5.out (kx.out.trans HK.out.1) (by omega) HO6.out (fun k hk=>hkX k (hS6.cF hk).2 (nS k hk)) (fun k l1 l2=>hkX k (by omega) (nW k l1 l2)) qj Cr ha fL (cT E q (.slice none 0 0) sup0 0 0 0 0 0)
           exact⟨S',W1 z,E,q, .slice none 0 0,[],sup0,0,0,0,0,0,rfl,⟨Own.nil _ _,fun k e=>by simp [Value.ownBlock]at e⟩,Or.inr (Or.inl ⟨rfl,HX6.out,rfl,rfl,rfl⟩),z1,z2,z3,(nQ.out _).1,z4,z5,z6,(nQ.out _).2⟩)
         have vt:Hid (∀wX,Below w6.heap.size w6 wX-> ∃z,Own wX base (.slice (some ⟨gA,0,none⟩) 600 600) z/\z.length=600):=aa (fun wX q=>by
           have hO:=HM6.out.2.2.2.2.2.below q (Nat.le_refl _)
           exact⟨_,hO,eu.out⟩)
         have HB68:Hid (Below w6.heap.size w6 w8):=aa (HB7.out.trans (HB8.out.mono HB7.out.size))
         have vw:Hid (base<=w6.heap.size):=aa (Nat.le_trans HH.out.base HBW6.out.size)
         have lq:Src w8 (some ⟨gA,j,none⟩) (600-j) (zs.drop j):=by
           have hO:=HM6.out.2.2.2.2.2.below HB68.out (Nat.le_refl _)
           obtain⟨sx,cx,ex,⟨g1,g2,gb,go,g3,g4,g5⟩,_⟩:=hO.form
           injection ex with e1 _ e3
           subst e1 e3
           have e6:zs.length=600:=eu.out
           replace g1:zs.length<=600:=g1
           replace g3:0<zs.length->gb<w8.heap.size:=g3
           replace g4:0<zs.length->some (⟨gA,0,none⟩:Addr)=some (⟨gb,go,none⟩:Addr):=g4
           replace g5: ∀i,i<zs.length->w8.cell? ⟨gb,go+i,none⟩=some (.int .u8 (zs.getD i 0)):=g5
           have e7:=g4 (by omega)
           injection e7 with e7
           injection e7 with e8 e9 _
           subst e8 e9
           refine⟨by rw [List.length_drop];omega,by omega,gA,j,fun _=>g3 (by omega),fun _=>rfl,fun i hi=>?_⟩
           rw [List.length_drop]at hi
           have:=g5 (j+i) (by omega)
           rw [Nat.zero_add]at this
           rw [this]
           simp [List.getD,List.getElem?_drop]
         have jH:=qU w8 (zs.drop j) (some ⟨gA,j,none⟩) (600-j) lq 250 (600-j) (by rw [List.length_drop,eu.out]) (by omega) (fun i hi=>by rw [Ck.out,List.getD_eq_getElem?_getD,List.getElem?_replicate,if_pos hi];rfl)
         rw [show((600-j:Nat):Int)=600-(j:Int) by omega]at jH
         replace jH:=aa jH
         clear lq
         go_wp2_with fail
         refine jH.out.mono ?_
         rintro e w9 ⟨rfl,hb9⟩
         have HB69:Hid (Below w6.heap.size w6 w9):=aa (HB68.out.trans (hb9.mono HB68.out.size))
         clear hb9 jH
         obtain⟨z9,hz9,hl9⟩:=vt.out w9 HB69.out
         go_wp2_with fail
         go_loopw [18] (fun i wr=> ∃(t:Nat) (z:List Int),t<=j/\i= .int .i64 t/\Own wr base (.slice (some ⟨gA,0,none⟩) 600 600) z/\z.length=600/\Bo.KV w9 base (.slice (some ⟨gA,0,none⟩) 600 600) wr) (fun i _=>j-(intOf i).toNat)
         case atStart=>exact⟨0,z9,by omega,rfl,hz9,hl9,Bo.KV.refl _ _ _⟩
         case round=>
           clear hz9 hl9
           obtain⟨t,z,ht,rfl,hO,hzl,hK9⟩:=hrel
           by_cases xx:t<j
           · have i1:(t:Int)<(j:Int):=by omega
             obtain⟨g,hg0,hg,c0,f0,cP⟩:=Bo.gi (k:=t) (m:=251) hO (by rw [hzl];omega)
             obtain rfl:gA=g:=by injection hg0 with hg0;injection hg0
             generalize z.getD t 0=zz at*
             replace cP:=aa cP
             replace hO:=aa hO
             replace hzl:=aa hzl
             clear hg0
             go_wp2
             go_roundw
             case rel=>exact⟨t+1,z.set t 251,by omega,by go_num,cP.out,by rw [List.length_set];exact hzl.out,hK9.step (Bo.At.self _ _) ((Below.refl _ _).setCell hg _) (fun kk2 _ q2=>Bo.cI (show kk2≠gA from fun e=>q2 (by rw [e];rfl)))⟩
             case measure=>simp [intOf];omega
           · obtain rfl:t=j:=by omega
             clear xx
             have H9:=aa (ux.out _ ((HB69.out.mono vw.out).trans hK9.1) (fun k q r=>(hK9.2 k (Nat.lt_of_lt_of_le q HB69.out.size) (fun e=>r (by simpa [Value.ownBlock]using e.symm))).trans (HB69.out.block k q)) ⟨z,hO,hzl⟩)
             have HS0:=aa (show cf.size=(cT E q (.slice none 0 0) sup0 0 0 0 0 0).size from rfl)
             have iO:=aa (oQ E q none 0 0 sup0 0 0 0 0 0)
             have iP:=aa (ia E q (.slice none 0 0) sup0 0 0 0 0 0)
             go_wp2_with (first| (refine wpList_store_row rfl 46 (.tmp 6) (.tmp 187) rfl (w.heap.size+1) (cT E q (.slice none 0 0) sup0 0 0 0 0 0) rfl rfl 46 cf H9.out.1 iP.out HS0.out iO.out ?_)| fail)
             refine bodyPost_ret (bf Tryz.results24 _ _ (w.heap.size+1) 46 _ _ _ (by first| rfl| simp) (setRow_heap _ _ _ _ _ _ H9.out.1) Tryz.underlying46 rfl (ia _ _ _ _ _ _ _ _ _)) rfl ?_
             exact H9.out.2
theorem Cu(w:World)(base:Nat)(S:au)(b:Nat)(h:SK w base S)(G:Gd S b)(hb:b<=1000000000)(W:Wr)(c:Nat)(hW:WO w base W c)(hr:gK W S)(hc:c<=1000000000)(at_ nn m_:Int)(zr:List Int)(h8:aS zr)(hl:zr.length<=140737488352000)(rI:W.zr= [])(hq:(((W.turn:Int)+1)%2==0)=false)(sp:Option Addr)(l cap bt:Nat)(hlz:l=zr.length)(hS:Src w sp cap zr)(eD:0<zr.length-> ∀a,sp=some a->a.block<base):
   Calls Tryz.prog 24 #[.pointer (some ⟨W.g,0,none⟩), .pointer (some ⟨S.st,0,none⟩), .agg (aK 3 at_ nn m_ (.slice sp l cap) bt)] w (iZ w base S 3 nn zr W c):=by
 obtain⟨w2,hw2⟩: ∃w2,w2=(w.alloc (.cells (aK 3 at_ nn m_ (.slice sp l cap) bt) 38)).alloc (.cells #[.int .i64 0, .int .i64 0, .bool false, .slice none 0 0, .int .i64 0, .int .i64 0, .int .i64 0, .int .i64 0, .int .i64 0, .int .i64 0, .int .i64 0, .int .i64 0, .int .i64 0, .int .i64 0, .int .i64 0, .int .i64 0, .int .i64 0, .int .i64 0] 46):=⟨_,rfl⟩
 have HW2:=aa hw2
 have hP:Pn w w2 (aK 3 at_ nn m_ (.slice sp l cap) bt):=by rw [hw2];exact Pn.mk' w _
 have k0:w2.cell? ⟨w.heap.size,0,none⟩=some (.int .i64 3):=by rw [cell_of_row _ _ _ _ _ _ hP.op];rfl
 have k2:w2.cell? ⟨w.heap.size,2,none⟩=some (.int .i64 nn):=by rw [cell_of_row _ _ _ _ _ _ hP.op];rfl
 have h2:=h.below hP.bl
 have k4:w2.cell? ⟨w.heap.size,4,none⟩=some (.slice sp l cap):=by rw [cell_of_row _ _ _ _ _ _ hP.op];rfl
 subst hlz
 have iD:=aa (eZ w2 zr sp cap (hS.below hP.bl (Nat.le_refl _)) (by omega) 300 (by omega))
 have hW2:=hW.below hP.bl
 have HP:=aa hP
 have HH:=aa h
 have qh:=aa hW
 have kJ:=aa hr
 have lY:=aa hS
 have tD:=aa eD
 have H8:=aa h8
 have jk:=aa hl
 have xA:=aa hW.tu
 have mv:=aa (fun k hk=>(hW.ty (k:=k) hk).2.1)
 have HG:=aa G
 clear h h2 hW hr hP G hS eD h8 hl
 rw [hw2]at k0 k2 k4
 clear hw2
 go_enter Tryz.func24,Tryz.ntmps24
 go_wp2_with (first
   | refine cQ rfl (.tmp 2) rfl _ at_ nn m_ sp l cap bt rfl ?_)
 rw [<-HW2.out]
 refine iD.out.mono ?_
 rintro e w3 ⟨v3,rfl,hO3,hb3⟩
 obtain⟨s3,c3,rfl,_,_⟩:=hO3.form
 have hk3:(zr.take 300).length<=300:=by rw [List.length_take];omega
 have hk4:(zr.take 300).length<=zr.length:=by rw [List.length_take];omega
 have hkk0:zr.take (zr.take 300).length=zr.take 300:=oV zr
 generalize (zr.take 300).length=kk at*
 have qi:=aa hkk0
 clear hkk0
 have hW3:=hW2.below hb3
 obtain⟨_,_,_,c5,_,f5⟩:=hW3.cells
 have Ji:=f5 5
 clear f5
 have lj:=hW3.turned
 obtain⟨_,_,_,d5,d6,df⟩:=lj.cells
 have df6:=df 6
 clear df
 have Ev:(W.turn:Int)<=1000000000:=by have:=xA.out;omega
 have hti0:(0:Int)<=(W.turn:Int):=by omega
 have Ex:(w3.setCell ⟨W.g,5,none⟩ (.int .i64 ((W.turn:Int)+1))).cell? ⟨W.g,5,none⟩=some (.int .i64 ((W.turn:Int)+1)):=d5
 have xE:=aa lj
 have HB3:=aa hb3
 have fL:=lj.rm
 have Jn:=aa fL
 obtain⟨oW,dX,hR,_,_⟩:=fL.form
 have hR2:W.room= .slice oW W.zr.length dX:=hR
 have uL:(w3.setCell ⟨W.g,5,none⟩ (.int .i64 ((W.turn:Int)+1))).cell? ⟨W.g,6,none⟩=some (.slice oW W.zr.length dX):=d6.trans (by rw [<-hR2])
 have qY:=aa hR2
 clear d5 d6 hO3 hb3 hW3 lj hW2 iD k0 k2 k4 fL hR hR2
 rw [rI,List.length_nil]at uL
 obtain⟨i5,hi5,hz5,hs5,hy5⟩:=Tryz.info5
 have HI:=aa hi5
 have K1:=aa (show i5.bytes*600<=281474976710656 by rw [hy5];omega)
 have K2:=aa (show 600<=maxLen by unfold maxLen;omega)
 clear hi5 hy5
 have HB0:=aa HH.out.base
 have hgl2:=mv.out W.g ((W.mem _).2 (by simp))
 have Cg:=HP.out.sz
 have Ch:=HB3.out.size
 go_wp2_with (refine wpList_make_full _ rfl _ _ 31 rfl (w3.setCell ⟨W.g,5,none⟩ (.int .i64 ((W.turn:Int)+1))).heap.size 5 i5 (.int .u8 0) 1 Tryz.underlying31 HI.out hz5 hs5 .i64 .i64 _ _ 600 rfl rfl rfl rfl K1.out K2.out (Nat.le_refl _) ?_;intro w4 hO hg;refine Hid.out ?_)
 refine aa ?_
 have hs0:(w3.setCell ⟨W.g,5,none⟩ (.int .i64 ((W.turn:Int)+1))).heap.size=w3.heap.size:=World.size_setCell ..
 have b4:Below (w3.setCell ⟨W.g,5,none⟩ (.int .i64 ((W.turn:Int)+1))).heap.size (w3.setCell ⟨W.g,5,none⟩ (.int .i64 ((W.turn:Int)+1))) w4:=dx hg (fun k hk=>by cases hk) (Nat.le_refl _)
 obtain⟨z1,hz1⟩: ∃z1,z1=dB [] 600:=⟨_,rfl⟩
 have hz6:z1.length=600:=by rw [hz1];exact ua 600
 have hO1:=qW w4 base (w3.setCell ⟨W.g,5,none⟩ (.int .i64 ((W.turn:Int)+1))).heap.size 600 (by have:=HB0.out;omega) K2.out (gw hO)
 have hlt:=aC (gw hO)
 rw [<-hz1]at hO1
 clear hO
 have hwr:=xE.out.Jm _ z1 hO1 hz6 b4 (fun k e=>Nat.le_of_eq (by simpa [Value.ownBlock]using e))
 have hAe4: ∀k,k<w3.heap.size->k≠W.g->w4.heap[k]? =w3.heap[k]? :=fun k l e=>(b4.block k (by omega)).trans (heap_setCell_other w3 ⟨W.g,5,none⟩ k _ e)
 rw [hs0]at hO1 hlt b4 hwr
 try rw [hs0]
 generalize hg1:w3.heap.size=g1 at*
 obtain⟨hrow,Cv⟩:=hwr
 have TC:w4.cell? ⟨W.g,6,none⟩=some (.slice oW 0 dX):=by rw [cell_of_row _ _ _ _ _ _ hrow];show some W.room=_;rw [qY.out,rI,List.length_nil]
 obtain⟨_,_,_,_,_,ef4⟩:=(xE.out.below (by rw [World.size_setCell,hg1];exact b4)).cells
 have ef46:=ef4 6
 clear ef4
 obtain⟨_,_,_,e5,e6,ef⟩:=Cv.cells
 have ef6:=ef 6
 have TD:(w4.setCell ⟨W.g,6,none⟩ (.slice (some ⟨g1,0,none⟩) 600 600)).cell? ⟨W.g,5,none⟩=some (.int .i64 ((W.turn:Int)+1)):=e5
 have TE:(w4.setCell ⟨W.g,6,none⟩ (.slice (some ⟨g1,0,none⟩) 600 600)).cell? ⟨W.g,6,none⟩=some (.slice (some ⟨g1,0,none⟩) 600 600):=e6
 have Bh:=aa Cv
 clear e5 e6 ef hrow Cv
 obtain⟨gA,tE⟩: ∃gA,gA=g1:=⟨_,rfl⟩
 subst tE
 obtain⟨zA,oX⟩: ∃zA,zA=z1:=⟨_,rfl⟩
 subst oX
 obtain⟨wA,nM⟩: ∃wA,wA=(w4.setCell ⟨W.g,6,none⟩ (.slice (some ⟨gA,0,none⟩) 600 600)):=⟨_,rfl⟩
 have QF:=aa nM
 have QI:wA.heap.size=w4.heap.size:=by rw [nM,World.size_setCell]
 have ll: ∀k,k<w3.heap.size->k≠W.g->wA.heap[k]? =w3.heap[k]? :=fun k l e=>((by rw [nM];exact heap_setCell_other w4 ⟨W.g,6,none⟩ k _ e:wA.heap[k]? =w4.heap[k]?)).trans (hAe4 k (by omega) e)
 have nN:=aa hz6
 have Cf:Hid (Own wA base (.slice (some ⟨gA,0,none⟩) 600 600) zA):=aa (by rw [nM];exact Bh.out.rm)
 have hcap600:(600:Int)<=((600:Nat):Int):=by omega
 have gF:Hid (w.heap.size+2<=wA.heap.size):=aa (by omega)
 have kx:Hid (Below base w wA):=aa (by
   have cX:=HH.out.base
   exact(((HP.out.bl.mono cX).trans (HB3.out.mono (Nat.le_trans cX HP.out.bl.size))).setCell qh.out.hg _).trans (by rw [nM];exact(b4.mono (by omega)).setCell qh.out.hg _))
 have dH:Hid (gA<wA.heap.size/\gA∉S.fp/\gA≠w.heap.size/\gA≠w.heap.size+1):=aa ⟨by omega,fun q=>by have:=(HH.out.cF q).2;omega,by omega,by omega⟩
 have vo:Hid (wA.heap[w.heap.size]? =some (.cells (aK 3 at_ nn m_ (.slice sp zr.length cap) bt) 38 (0,0))):=aa ((ll _ (by omega) (by omega)).trans ((HB3.out.block _ (by omega)).trans HP.out.op))
 have vq:Hid (wA.heap[w.heap.size+1]? =some (.cells cf 46 (0,0))):=aa ((ll _ (by omega) (by omega)).trans ((HB3.out.block _ (by omega)).trans HP.out.an))
 have ky:Hid (∀k,k<w.heap.size->k∉W.fp->k≠gA/\wA.heap[k]? =w.heap[k]?):=aa (fun k e1 e2=>⟨by omega,(ll k (by omega) (fun e=>e2 ((W.mem _).2 (by simp [e])))).trans ((HB3.out.block k (by omega)).trans (HP.out.bl.block k e1))⟩)
 obtain⟨W1,hW0,tF,nO,nP⟩: ∃W1:List Int->Wr,WO wA base (W1 zA) (c+1)/\(∀(wa wb:World) (z z':List Int),WO wa base (W1 z) (c+1)->Own wb base (.slice (some ⟨gA,0,none⟩) 600 600) z'->z'.length=600->(∀k,k<wa.heap.size->k≠gA->wb.heap[k]? =wa.heap[k]?)->WO wb base (W1 z') (c+1))/\(∀z,((W1 z).g=W.g/\(W1 z).dl=W.dl/\(W1 z).tl=W.tl)/\ ∀k∈(W1 z).fp,k∈W.fp\/w.heap.size<=k)/\(∀z k,(W1 z).room.ownBlock=some k->k<wA.heap.size/\k∉S.fp/\k≠w.heap.size+1):=by
   refine⟨fun z=>{W with turn:=W.turn+1,room:= .slice (some ⟨gA,0,none⟩) 600 600,zr:=z},?_,fun wa wb z z' h1 h2 h3 h4=>?_,fun z=>⟨⟨rfl,rfl,rfl⟩,qR (w5:=wA) (W:=W) w.heap.size rfl rfl (Or.inl rfl) (Or.inl rfl) (Or.inl rfl) (Or.inl rfl) (Or.inl rfl) (Or.inl rfl) (Or.inr ⟨gA,rfl,by omega⟩) (by have:=gF.out;omega)⟩,fun z k e=>?_⟩
   · rw [nM];exact Bh.out
   · exact h1.QE z' h2 (Or.inr h3) (fun k hk q=>h4 k (h1.ty hk).2.1 (fun e=>q (by rw [e];rfl)))
   · obtain rfl:gA=k:=by simpa [Value.ownBlock]using e
     exact⟨by omega,fun q=>by have:=(HH.out.cF q).2;omega,by omega⟩
 have HW0:=aa hW0
 have kB:=aa tF
 have nQ:=aa nO
 have fE:=aa nP
 clear hW0 tF nO nP hgl2 Cg Ch ll hAe4 hz6 hO1 hs0 b4 hg hlt hg1 Ex uL df6 QI hz1
 go_wp2_with fail
 rw [<-QF.out]
 clear nM
 go_loopw [13] (fun i wr=> ∃k:Nat,k<=600/\i= .int .i64 k/\Own wr base (.slice (some ⟨gA,0,none⟩) 600 600) (List.replicate k 250++zA.drop k)/\Bo.KV wA base (.slice (some ⟨gA,0,none⟩) 600 600) wr) (fun i _=>600-(intOf i).toNat)
 case atStart=>exact⟨0,by omega,rfl,Cf.out,Bo.KV.refl _ _ _⟩
 case round=>
   obtain⟨k,hk,rfl,hO,hK⟩:=hrel
   by_cases hkn:k<600
   · have i1:(k:Int)<600:=by omega
     have hlen:(List.replicate k (250:Int)++zA.drop k).length=600:=by rw [List.length_append,List.length_replicate,List.length_drop,nN.out];omega
     obtain⟨g,hg0,hg,c0,f0,cP⟩:=Bo.gi (m:=250) hO (by rw [hlen];exact hkn)
     obtain rfl:gA=g:=by injection hg0 with hg0;injection hg0
     have HR:=aa (show(List.replicate k (250:Int)++zA.drop k).set k 250=List.replicate (k+1) 250++zA.drop (k+1) by
       have xw:k<zA.length:=by rw [nN.out];exact hkn
       rw [List.set_append_right _ _ (by simp),List.length_replicate,Nat.sub_self,List.drop_eq_getElem_cons xw,List.set_cons_zero,List.replicate_succ',List.append_assoc];rfl)
     replace hlen:=aa hlen
     generalize (List.replicate k (250:Int)++zA.drop k).getD k 0=zz at*
     replace cP:=aa cP
     replace hO:=aa hO
     clear hg0
     go_wp2
     go_roundw
     case rel=>exact⟨k+1,by omega,by go_num,(by rw [<-HR.out];exact cP.out),hK.step (Bo.At.self _ _) ((Below.refl _ _).setCell hg _) (fun kk _ q2=>Bo.cI (show kk≠gA from fun e=>q2 (by rw [e];rfl)))⟩
     case measure=>simp [intOf];omega
   · obtain rfl:k=600:=by omega
     clear hkn
     rw [List.drop_of_length_le (by rw [nN.out];exact Nat.le_refl _),List.append_nil]at hO
     have HK:=aa hK
     have iJ:Hid (∀wr,Bo.KV wA base (.slice (some ⟨gA,0,none⟩) 600 600) wr->wr.heap[w.heap.size]? =some (.cells (aK 3 at_ nn m_ (.slice sp zr.length cap) bt) 38 (0,0))):=aa (fun wr q=>(q.2 _ (by have:=gF.out;omega) (fun e=>dH.out.2.2.1 (by simpa [Value.ownBlock]using e))).trans vo.out)
     have vr:Hid (∀wr,Bo.KV wA base (.slice (some ⟨gA,0,none⟩) 600 600) wr-> ∀j,j<zr.length-> ∃b o,sp=some ⟨b,o,none⟩/\wr.cell? ⟨b,o+j,none⟩=some (.int .u8 (zr.getD j 0))):=aa (fun wr q j hj=>by
       obtain⟨_,_,b,o,_,h2,h3⟩:=lY.out
       refine⟨b,o,h2 (by omega),?_⟩
       have hb:=tD.out (by omega) _ (h2 (by omega))
       exact((kx.out.trans q.1).cell (p:=⟨b,o+j,none⟩) hb).trans (h3 j hj))
     have hkk:(kk:Int)<=300:=by omega
     go_wp2_with fail
     go_loopw [14] (fun i wr=> ∃(j:Nat) (zs:List Int),j<=kk/\i= .int .i64 j/\Own wr base (.slice (some ⟨gA,0,none⟩) 600 600) zs/\zs.length=600/\aS zs/\zs=ja zr j/\Bo.KV wA base (.slice (some ⟨gA,0,none⟩) 600 600) wr) (fun i _=>kk-(intOf i).toNat)
     case atStart=>exact⟨0,List.replicate 600 250,by omega,rfl,hO,by simp,(by intro x hx;rw [List.eq_of_mem_replicate hx];exact⟨by omega,by omega⟩),(by unfold ja;simp),HK.out⟩
     case round=>
       clear hO hK HK
       obtain⟨j,zs,hj,rfl,hO,hzl,hz8,hmx,hK⟩:=hrel
       have nR:=aa hmx
       clear hmx
       by_cases Ci:j<kk
       · have i1:(j:Int)<(kk:Int):=by omega
         have i2:(j:Int)<600:=by omega
         have i3:(j:Int)<(zr.length:Int):=by omega
         obtain⟨rb,ro,rfl,cr⟩:=vr.out _ hK j (by omega)
         have ck4:wr.cell? ⟨w.heap.size,4,none⟩=some (.slice (some ⟨rb,ro,none⟩) zr.length cap):=by rw [cell_of_row _ _ _ _ _ _ (iJ.out _ hK)];rfl
         have Cj:=aa (show zs.set j (zr.getD j 0)=ja zr (j+1) by rw [nR.out];exact qX zr j (by omega) (by omega))
         have hy8:0<=zr.getD j 0/\zr.getD j 0<256:=Al H8.out j
         generalize zr.getD j 0=y at*
         obtain⟨g,hg0,hg,c0,f0,cP⟩:=Bo.gi (k:=j) (m:=y) hO (by rw [hzl];omega)
         obtain rfl:gA=g:=by injection hg0 with hg0;injection hg0
         have HS8:Hid (aS (zs.set j y)):=aa (fun x hx=>by
           rcases List.mem_or_eq_of_mem_set hx with q| q
           · exact hz8 x q
           · rw [q];exact hy8)
         generalize zs.getD j 0=zz at*
         replace cP:=aa cP
         replace hO:=aa hO
         replace hzl:=aa hzl
         clear hg0 hz8 hy8
         go_wp2
         go_roundw
         case rel=>exact⟨j+1,zs.set j y,by omega,by go_num,cP.out,by rw [List.length_set];exact hzl.out,HS8.out,Cj.out,hK.step (Bo.At.self _ _) ((Below.refl _ _).setCell hg _) (fun kk2 _ q2=>Bo.cI (show kk2≠gA from fun e=>q2 (by rw [e];rfl)))⟩
         case measure=>simp [intOf];omega
       · obtain rfl:j=kk:=by omega
         clear Ci
         have ck2:wr.cell? ⟨w.heap.size,2,none⟩=some (.int .i64 nn):=by rw [cell_of_row _ _ _ _ _ _ (iJ.out _ hK)];rfl
         have HO:=aa hO
         have HK:=aa hK
         have HZ8:=aa hz8
         have eu:=aa hzl
         clear hO hK hz8 hzl
         have F5: ∀k,k<w.heap.size->k∉W.fp->wr.heap[k]? =w.heap[k]? :=fun k e1 e2=>(HK.out.2 k (by have:=gF.out;omega) (fun e=>(ky.out k e1 e2).1 (by simpa [Value.ownBlock]using e.symm))).trans (ky.out k e1 e2).2
         have nT: ∀k∈S.fp,k∉W.fp:=fun k hk q=>qh.out.off HH.out kJ.out q hk
         have lB:=HK.out.1.size
         have tG:=gF.out
         have nU:SK wr base S:=HH.out.lh (fun k hk=>F5 k (HH.out.cF hk).2 (nT k hk)) (by omega)
         have tH:WO wr base (W1 zs) (c+1):=kB.out _ _ _ _ HW0.out HO.out eu.out (fun k hk q=>HK.out.2 k hk (fun e=>q (by simpa [Value.ownBlock]using e.symm)))
         have oM:zs.take j=zr.take 300:=by rw [nR.out,oT _ _ (by omega)];exact qi.out
         have hdr:zs.drop j=List.replicate (600-j) 250:=by rw [nR.out,oU _ _ (by omega)]
         have tI:=aa oM
         have Ck:=aa hdr
         clear oM hdr
         have hlk:(zs.take j).length=j:=by rw [List.length_take,eu.out];omega
         have lp:Src wr (some ⟨gA,0,none⟩) 600 (zs.take j):=by
           obtain⟨sx,cx,ex,⟨g1,g2,gb,go,g3,g4,g5⟩,_⟩:=HO.out.form
           injection ex with e1 _ e3
           subst e1 e3
           refine⟨by rw [hlk];omega,g2,gb,go,fun q=>g3 (by rw [eu.out];omega),fun q=>g4 (by rw [eu.out];omega),fun i hi=>?_⟩
           rw [hlk]at hi
           rw [fH _ _ _ _ hi]
           exact g5 i (by rw [eu.out];omega)
         have HST:=oP wr base S b nU HG.out (by omega) nn (zs.take j) (fun x hx=>HZ8.out x (List.mem_of_mem_take hx)) (by rw [hlk];omega) (some ⟨gA,0,none⟩) 600 lp (fun e=>by cases e)
         rw [hlk]at HST
         replace HST:=aa HST
         have HF5:=aa F5
         have QJ:=aa nT
         have Co:=aa nU
         have nV:=aa tH
         have nZ:=aa hlk
         have lZ:=aa lB
         clear tG F5 nT lB nU tH hlk lp
         go_wp2_with fail
         refine HST.out.mono ?_
         rintro e w6 ⟨S',q,E,rfl,hX6,hO6⟩
         have HX6:=aa (show nH S nn (zr.take 300) S' q E by rw [<-tI.out];exact hX6)
         clear hX6
         have HO6:=aa hO6
         have HM6:Hid (WO w6 base (W1 zs) (c+1)/\gK (W1 zs) S'/\wr.heap.size<=w6.heap.size/\w6.heap[w.heap.size]? =some (.cells (aK 3 at_ nn m_ (.slice sp zr.length cap) bt) 38 (0,0))/\gA∉S'.fp/\Own w6 base (.slice (some ⟨gA,0,none⟩) 600 600) zs):=aa (by
           obtain⟨_,hb,hf,hg⟩:=hO6
           have lB:=lZ.out
           have tG:=gF.out
           refine⟨nV.out.keep fun k hk=>hf.block k (nV.out.ty hk).2.1 (nV.out.off Co.out (fun k e=>(fE.out _ k e).2.1) hk),fun k e z=>?_,hf.size,(hf.block _ (by omega) (fun z=>by have:=(HH.out.cF z).2;omega)).trans (iJ.out _ HK.out),fun z=>?_,HO.out.of_heap fun k e=>?_⟩
           · rcases hg k z with z| z
             · exact(fE.out _ k e).2.1 z
             · have:=(fE.out _ k e).1;omega
           · rcases hg gA z with z| z
             · exact dH.out.2.1 z
             · have:=dH.out.1;omega
           · obtain rfl:gA=k:=by simpa [Value.ownBlock]using e
             exact hf.block _ (by have:=dH.out.1;omega) dH.out.2.1)
         have HBW6:Hid (Below base w w6):=aa ((kx.out.trans HK.out.1).trans hO6.2.1)
         have k46:w6.cell? ⟨w.heap.size,4,none⟩=some (.slice sp zr.length cap):=by rw [cell_of_row _ _ _ _ _ _ HM6.out.2.2.2.1];rfl
         have hsrc6:Src w6 sp cap zr:=by
           obtain⟨g1,g2,gb,go,g3,g4,g5⟩:=lY.out
           have hsz:=HBW6.out.size
           exact⟨g1,g2,gb,go,fun q=>by have:=g3 q;omega,g4,fun i hi=>(HBW6.out.cell (p:=⟨gb,go+i,none⟩) (show gb<base from tD.out (by omega) ⟨gb,go,none⟩ (g4 (by omega)))).trans (g5 i hi)⟩
         have HSH6:=aa (eZ w6 zr sp cap hsrc6 (by have:=jk.out;omega) 300 (by omega))
         clear hO6 HST hsrc6 ck2
         go_wp2_with fail
         refine HSH6.out.mono ?_
         rintro e w7 ⟨v7,rfl,hO7,hb7⟩
         obtain⟨s7,c7,rfl,hsrc7,_⟩:=hO7.form
         have HB7:=aa hb7
         have hsrcA7:Src w7 (some ⟨gA,0,none⟩) 600 (zs.take j):=by
           have hO:=HM6.out.2.2.2.2.2.below hb7 (Nat.le_refl _)
           obtain⟨sx,cx,ex,⟨g1,g2,gb,go,g3,g4,g5⟩,_⟩:=hO.form
           injection ex with e1 _ e3
           subst e1 e3
           refine⟨by rw [nZ.out];omega,g2,gb,go,fun q=>g3 (by show 0<zs.length;rw [eu.out];omega),fun q=>g4 (by show 0<zs.length;rw [eu.out];omega),fun i hi=>?_⟩
           rw [nZ.out]at hi
           rw [fH _ _ _ _ hi]
           exact g5 i (by show i<zs.length;rw [eu.out];omega)
         have iz:=kg w7 (zs.take j) (zr.take 300) (some ⟨gA,0,none⟩) s7 600 c7 hsrcA7 hsrc7
         rw [nZ.out,List.length_take,decide_eq_true tI.out]at iz
         replace iz:=aa iz
         clear hO7 hb7 hsrc7 hsrcA7
         go_wp2_with fail
         refine iz.out.mono ?_
         rintro e w8 ⟨rfl,hb8⟩
         have HB8:=aa hb8
         clear hb8
         have ux:Hid (∀wX,Below base w6 wX->(∀k,k<w6.heap.size->k≠gA->wX.heap[k]? =w6.heap[k]?)->(∃z,Own wX base (.slice (some ⟨gA,0,none⟩) 600 600) z/\z.length=600)->wX.heap[w.heap.size+1]? =some (.cells cf 46 (0,0))/\iZ w base S 3 nn zr W c (.returned (.agg (cT E q (.slice none 0 0) sup0 0 0 0 0 0))) (wX.setRow (w.heap.size+1) (cT E q (.slice none 0 0) sup0 0 0 0 0 0))):=aa (fun wX qj hkX ⟨z,Cp,Cq⟩=>by
           have e1:=gF.out
           have e2:=lZ.out
           have e3:=HM6.out.2.2.1
           have e4:=dH.out.1
           obtain⟨hS6,_,hf6,_⟩:=HO6.out
           have nS: ∀k∈S'.fp,k≠gA:=fun k hk q=>HM6.out.2.2.2.2.1 (q▸hk)
           have nW: ∀k,k<w.heap.size->k∉W.fp->k≠gA:=fun k l hk=>(ky.out k l hk).1
           have Cr:WO wX base (W1 z) (c+1):=kB.out _ _ _ _ HM6.out.1 Cp Cq hkX
           have ha:wX.heap[w.heap.size+1]? =some (.cells cf 46 (0,0)):=by
             refine(hkX _ (by omega) (fun q=>dH.out.2.2.2 q.symm)).trans ((hf6.block _ (by omega) (fun q=>by have:=(HH.out.cF q).2;omega)).trans ((HK.out.2 _ (by omega) (fun q=>dH.out.2.2.2 (by simpa [Value.ownBlock]using q))).trans vq.out))
           refine⟨ha,?_⟩
           have fL: ∀k,(W1 z).room.ownBlock=some k->k∉S'.fp/\k≠w.heap.size+1:=fun k q=>by
             refine⟨fun q2=>?_,(fE.out _ k q).2.2⟩
             obtain⟨_,_,_,hg⟩:=HO6.out
             rcases hg k q2 with z| z
             · exact(fE.out _ k q).2.1 z
             · have:=(fE.out _ k q).1;omega
           obtain⟨z1,z2,z3,z4,z5,z6⟩:=qV HH.out HF5.out (kx.out.trans HK.out.1) (by omega) HO6.out (fun k hk=>hkX k (hS6.cF hk).2 (nS k hk)) (fun k l1 l2=>hkX k (by omega) (nW k l1 l2)) qj Cr ha fL (cT E q (.slice none 0 0) sup0 0 0 0 0 0)
           exact⟨S',W1 z,E,q, .slice none 0 0,[],sup0,0,0,0,0,0,rfl,⟨Own.nil _ _,fun k e=>by simp [Value.ownBlock]at e⟩,Or.inr (Or.inl ⟨rfl,HX6.out,rfl,rfl,rfl⟩),z1,z2,z3,(nQ.out _).1,z4,z5,z6,(nQ.out _).2⟩)
         have vt:Hid (∀wX,Below w6.heap.size w6 wX-> ∃z,Own wX base (.slice (some ⟨gA,0,none⟩) 600 600) z/\z.length=600):=aa (fun wX q=>by
           have hO:=HM6.out.2.2.2.2.2.below q (Nat.le_refl _)
           exact⟨_,hO,eu.out⟩)
         have HB68:Hid (Below w6.heap.size w6 w8):=aa (HB7.out.trans (HB8.out.mono HB7.out.size))
         have vw:Hid (base<=w6.heap.size):=aa (Nat.le_trans HH.out.base HBW6.out.size)
         have lq:Src w8 (some ⟨gA,j,none⟩) (600-j) (zs.drop j):=by
           have hO:=HM6.out.2.2.2.2.2.below HB68.out (Nat.le_refl _)
           obtain⟨sx,cx,ex,⟨g1,g2,gb,go,g3,g4,g5⟩,_⟩:=hO.form
           injection ex with e1 _ e3
           subst e1 e3
           have e6:zs.length=600:=eu.out
           replace g1:zs.length<=600:=g1
           replace g3:0<zs.length->gb<w8.heap.size:=g3
           replace g4:0<zs.length->some (⟨gA,0,none⟩:Addr)=some (⟨gb,go,none⟩:Addr):=g4
           replace g5: ∀i,i<zs.length->w8.cell? ⟨gb,go+i,none⟩=some (.int .u8 (zs.getD i 0)):=g5
           have e7:=g4 (by omega)
           injection e7 with e7
           injection e7 with e8 e9 _
           subst e8 e9
           refine⟨by rw [List.length_drop];omega,by omega,gA,j,fun _=>g3 (by omega),fun _=>rfl,fun i hi=>?_⟩
           rw [List.length_drop]at hi
           have:=g5 (j+i) (by omega)
           rw [Nat.zero_add]at this
           rw [this]
           simp [List.getD,List.getElem?_drop]
         have jH:=qU w8 (zs.drop j) (some ⟨gA,j,none⟩) (600-j) lq 250 (600-j) (by rw [List.length_drop,eu.out]) (by omega) (fun i hi=>by rw [Ck.out,List.getD_eq_getElem?_getD,List.getElem?_replicate,if_pos hi];rfl)
         rw [show((600-j:Nat):Int)=600-(j:Int) by omega]at jH
         replace jH:=aa jH
         clear lq
         go_wp2_with fail
         refine jH.out.mono ?_
         rintro e w9 ⟨rfl,hb9⟩
         have HB69:Hid (Below w6.heap.size w6 w9):=aa (HB68.out.trans (hb9.mono HB68.out.size))
         clear hb9 jH
         obtain⟨z9,hz9,hl9⟩:=vt.out w9 HB69.out
         go_wp2_with fail
         go_loopw [18] (fun i wr=> ∃(t:Nat) (z:List Int),t<=j/\i= .int .i64 t/\Own wr base (.slice (some ⟨gA,0,none⟩) 600 600) z/\z.length=600/\Bo.KV w9 base (.slice (some ⟨gA,0,none⟩) 600 600) wr) (fun i _=>j-(intOf i).toNat)
         case atStart=>exact⟨0,z9,by omega,rfl,hz9,hl9,Bo.KV.refl _ _ _⟩
         case round=>
           clear hz9 hl9
           obtain⟨t,z,ht,rfl,hO,hzl,hK9⟩:=hrel
           by_cases xx:t<j
           · have i1:(t:Int)<(j:Int):=by omega
             obtain⟨g,hg0,hg,c0,f0,cP⟩:=Bo.gi (k:=t) (m:=251) hO (by rw [hzl];omega)
             obtain rfl:gA=g:=by injection hg0 with hg0;injection hg0
             generalize z.getD t 0=zz at*
             replace cP:=aa cP
             replace hO:=aa hO
             replace hzl:=aa hzl
             clear hg0
             go_wp2
             go_roundw
             case rel=>exact⟨t+1,z.set t 251,by omega,by go_num,cP.out,by rw [List.length_set];exact hzl.out,hK9.step (Bo.At.self _ _) ((Below.refl _ _).setCell hg _) (fun kk2 _ q2=>Bo.cI (show kk2≠gA from fun e=>q2 (by rw [e];rfl)))⟩
             case measure=>simp [intOf];omega
           · obtain rfl:t=j:=by omega
             clear xx
             have H9:=aa (ux.out _ ((HB69.out.mono vw.out).trans hK9.1) (fun k q r=>(hK9.2 k (Nat.lt_of_lt_of_le q HB69.out.size) (fun e=>r (by simpa [Value.ownBlock]using e.symm))).trans (HB69.out.block k q)) ⟨z,hO,hzl⟩)
             have HS0:=aa (show cf.size=(cT E q (.slice none 0 0) sup0 0 0 0 0 0).size from rfl)
             have iO:=aa (oQ E q none 0 0 sup0 0 0 0 0 0)
             have iP:=aa (ia E q (.slice none 0 0) sup0 0 0 0 0 0)
             go_wp2_with (first| (refine wpList_store_row rfl 46 (.tmp 6) (.tmp 187) rfl (w.heap.size+1) (cT E q (.slice none 0 0) sup0 0 0 0 0 0) rfl rfl 46 cf H9.out.1 iP.out HS0.out iO.out ?_)| fail)
             refine bodyPost_ret (bf Tryz.results24 _ _ (w.heap.size+1) 46 _ _ _ (by first| rfl| simp) (setRow_heap _ _ _ _ _ _ H9.out.1) Tryz.underlying46 rfl (ia _ _ _ _ _ _ _ _ _)) rfl ?_
             exact H9.out.2
theorem Cw(w:World)(base:Nat)(S:au)(b:Nat)(h:SK w base S)(G:Gd S b)(hb:b<=1000000000)(W:Wr)(c:Nat)(hW:WO w base W c)(hr:gK W S)(hc:c<=1000000000)(at_ nn m_:Int)(zr:List Int)(h8:aS zr)(hl:zr.length<=140737488352000)(rI:W.zr= [])(hq:(((W.turn:Int)+1)%2==0)=true)(sp:Option Addr)(l cap bt:Nat)(hlz:l=zr.length)(hS:Src w sp cap zr)(eD:0<zr.length-> ∀a,sp=some a->a.block<base):
   Calls Tryz.prog 24 #[.pointer (some ⟨W.g,0,none⟩), .pointer (some ⟨S.st,0,none⟩), .agg (aK 3 at_ nn m_ (.slice sp l cap) bt)] w (iZ w base S 3 nn zr W c):=by
 obtain⟨w2,hw2⟩: ∃w2,w2=(w.alloc (.cells (aK 3 at_ nn m_ (.slice sp l cap) bt) 38)).alloc (.cells #[.int .i64 0, .int .i64 0, .bool false, .slice none 0 0, .int .i64 0, .int .i64 0, .int .i64 0, .int .i64 0, .int .i64 0, .int .i64 0, .int .i64 0, .int .i64 0, .int .i64 0, .int .i64 0, .int .i64 0, .int .i64 0, .int .i64 0, .int .i64 0] 46):=⟨_,rfl⟩
 have HW2:=aa hw2
 have hP:Pn w w2 (aK 3 at_ nn m_ (.slice sp l cap) bt):=by rw [hw2];exact Pn.mk' w _
 have k0:w2.cell? ⟨w.heap.size,0,none⟩=some (.int .i64 3):=by rw [cell_of_row _ _ _ _ _ _ hP.op];rfl
 have k2:w2.cell? ⟨w.heap.size,2,none⟩=some (.int .i64 nn):=by rw [cell_of_row _ _ _ _ _ _ hP.op];rfl
 have h2:=h.below hP.bl
 have k4:w2.cell? ⟨w.heap.size,4,none⟩=some (.slice sp l cap):=by rw [cell_of_row _ _ _ _ _ _ hP.op];rfl
 subst hlz
 have iD:=aa (eZ w2 zr sp cap (hS.below hP.bl (Nat.le_refl _)) (by omega) 300 (by omega))
 have hW2:=hW.below hP.bl
 have HP:=aa hP
 have HH:=aa h
 have qh:=aa hW
 have kJ:=aa hr
 have lY:=aa hS
 have tD:=aa eD
 have H8:=aa h8
 have jk:=aa hl
 have xA:=aa hW.tu
 have mv:=aa (fun k hk=>(hW.ty (k:=k) hk).2.1)
 have HG:=aa G
 clear h h2 hW hr hP G hS eD h8 hl
 rw [hw2]at k0 k2 k4
 clear hw2
 go_enter Tryz.func24,Tryz.ntmps24
 go_wp2_with (first
   | refine cQ rfl (.tmp 2) rfl _ at_ nn m_ sp l cap bt rfl ?_)
 rw [<-HW2.out]
 refine iD.out.mono ?_
 rintro e w3 ⟨v3,rfl,hO3,hb3⟩
 obtain⟨s3,c3,rfl,_,_⟩:=hO3.form
 have hk3:(zr.take 300).length<=300:=by rw [List.length_take];omega
 have hk4:(zr.take 300).length<=zr.length:=by rw [List.length_take];omega
 have hkk0:zr.take (zr.take 300).length=zr.take 300:=oV zr
 generalize (zr.take 300).length=kk at*
 have qi:=aa hkk0
 clear hkk0
 have hW3:=hW2.below hb3
 obtain⟨_,_,_,c5,_,f5⟩:=hW3.cells
 have Ji:=f5 5
 clear f5
 have lj:=hW3.turned
 obtain⟨_,_,_,d5,d6,df⟩:=lj.cells
 have df6:=df 6
 clear df
 have Ev:(W.turn:Int)<=1000000000:=by have:=xA.out;omega
 have hti0:(0:Int)<=(W.turn:Int):=by omega
 have Ex:(w3.setCell ⟨W.g,5,none⟩ (.int .i64 ((W.turn:Int)+1))).cell? ⟨W.g,5,none⟩=some (.int .i64 ((W.turn:Int)+1)):=d5
 have xE:=aa lj
 have HB3:=aa hb3
 have fL:=lj.rm
 have Jn:=aa fL
 obtain⟨oW,dX,hR,_,_⟩:=fL.form
 have hR2:W.room= .slice oW W.zr.length dX:=hR
 have uL:(w3.setCell ⟨W.g,5,none⟩ (.int .i64 ((W.turn:Int)+1))).cell? ⟨W.g,6,none⟩=some (.slice oW W.zr.length dX):=d6.trans (by rw [<-hR2])
 have qY:=aa hR2
 clear d5 d6 hO3 hb3 hW3 lj hW2 iD k0 k2 k4 fL hR hR2
 rw [rI,List.length_nil]at uL
 obtain⟨i5,hi5,hz5,hs5,hy5⟩:=Tryz.info5
 have HI:=aa hi5
 have K1:=aa (show i5.bytes*600<=281474976710656 by rw [hy5];omega)
 have K2:=aa (show 600<=maxLen by unfold maxLen;omega)
 clear hi5 hy5
 have HB0:=aa HH.out.base
 have hgl2:=mv.out W.g ((W.mem _).2 (by simp))
 have Cg:=HP.out.sz
 have Ch:=HB3.out.size
 go_wp2_with (refine wpList_make_full _ rfl _ _ 31 rfl (w3.setCell ⟨W.g,5,none⟩ (.int .i64 ((W.turn:Int)+1))).heap.size 5 i5 (.int .u8 0) 1 Tryz.underlying31 HI.out hz5 hs5 .i64 .i64 _ _ 600 rfl rfl rfl rfl K1.out K2.out (Nat.le_refl _) ?_;intro w4 hO hg;refine Hid.out ?_)
 refine aa ?_
 have hs0:(w3.setCell ⟨W.g,5,none⟩ (.int .i64 ((W.turn:Int)+1))).heap.size=w3.heap.size:=World.size_setCell ..
 have b4:Below (w3.setCell ⟨W.g,5,none⟩ (.int .i64 ((W.turn:Int)+1))).heap.size (w3.setCell ⟨W.g,5,none⟩ (.int .i64 ((W.turn:Int)+1))) w4:=dx hg (fun k hk=>by cases hk) (Nat.le_refl _)
 obtain⟨z1,hz1⟩: ∃z1,z1=dB [] 600:=⟨_,rfl⟩
 have hz6:z1.length=600:=by rw [hz1];exact ua 600
 have hO1:=qW w4 base (w3.setCell ⟨W.g,5,none⟩ (.int .i64 ((W.turn:Int)+1))).heap.size 600 (by have:=HB0.out;omega) K2.out (gw hO)
 have hlt:=aC (gw hO)
 rw [<-hz1]at hO1
 clear hO
 have hwr:=xE.out.Jm _ z1 hO1 hz6 b4 (fun k e=>Nat.le_of_eq (by simpa [Value.ownBlock]using e))
 have hAe4: ∀k,k<w3.heap.size->k≠W.g->w4.heap[k]? =w3.heap[k]? :=fun k l e=>(b4.block k (by omega)).trans (heap_setCell_other w3 ⟨W.g,5,none⟩ k _ e)
 rw [hs0]at hO1 hlt b4 hwr
 try rw [hs0]
 generalize hg1:w3.heap.size=g1 at*
 obtain⟨hrow,Cv⟩:=hwr
 have TC:w4.cell? ⟨W.g,6,none⟩=some (.slice oW 0 dX):=by rw [cell_of_row _ _ _ _ _ _ hrow];show some W.room=_;rw [qY.out,rI,List.length_nil]
 obtain⟨_,_,_,_,_,ef4⟩:=(xE.out.below (by rw [World.size_setCell,hg1];exact b4)).cells
 have ef46:=ef4 6
 clear ef4
 obtain⟨_,_,_,e5,e6,ef⟩:=Cv.cells
 have ef6:=ef 6
 have TD:(w4.setCell ⟨W.g,6,none⟩ (.slice (some ⟨g1,0,none⟩) 600 600)).cell? ⟨W.g,5,none⟩=some (.int .i64 ((W.turn:Int)+1)):=e5
 have TE:(w4.setCell ⟨W.g,6,none⟩ (.slice (some ⟨g1,0,none⟩) 600 600)).cell? ⟨W.g,6,none⟩=some (.slice (some ⟨g1,0,none⟩) 600 600):=e6
 have Bh:=aa Cv
 clear e5 e6 ef hrow Cv
 go_wp2_with (refine wpList_make_full _ rfl _ _ 31 rfl (w4.setCell ⟨W.g,6,none⟩ (.slice (some ⟨g1,0,none⟩) 600 600)).heap.size 5 i5 (.int .u8 0) 1 Tryz.underlying31 HI.out hz5 hs5 .i64 .i64 _ _ 600 rfl rfl rfl rfl K1.out K2.out (Nat.le_refl _) ?_;intro wA hO hg;refine Hid.out ?_)
 refine aa ?_
 have hs1:(w4.setCell ⟨W.g,6,none⟩ (.slice (some ⟨g1,0,none⟩) 600 600)).heap.size=w4.heap.size:=World.size_setCell ..
 have bA:Below (w4.setCell ⟨W.g,6,none⟩ (.slice (some ⟨g1,0,none⟩) 600 600)).heap.size (w4.setCell ⟨W.g,6,none⟩ (.slice (some ⟨g1,0,none⟩) 600 600)) wA:=dx hg (fun k hk=>by cases hk) (Nat.le_refl _)
 have ll: ∀k,k<w3.heap.size->k≠W.g->wA.heap[k]? =w3.heap[k]? :=fun k l e=>(bA.block k (by omega)).trans ((heap_setCell_other w4 ⟨W.g,6,none⟩ k _ e).trans (hAe4 k (by omega) e))
 obtain⟨zA,oX⟩: ∃zA,zA=dB [] 600:=⟨_,rfl⟩
 have hz7:zA.length=600:=by rw [oX];exact ua 600
 have xF:=qW wA base (w4.setCell ⟨W.g,6,none⟩ (.slice (some ⟨g1,0,none⟩) 600 600)).heap.size 600 (by have:=HB0.out;omega) K2.out (gw hO)
 have hlt2:=aC (gw hO)
 rw [<-oX]at xF
 clear hO
 rw [hs1]at xF hlt2 bA
 try rw [hs1]
 generalize tE:w4.heap.size=gA at*
 have nN:=aa hz7
 have Cf:=aa xF
 have hcap600:(600:Int)<=((600:Nat):Int):=by omega
 have gF:Hid (w.heap.size+2<=wA.heap.size):=aa (by omega)
 have kx:Hid (Below base w wA):=aa (by
   have cX:=HH.out.base
   exact(((HP.out.bl.mono cX).trans (HB3.out.mono (Nat.le_trans cX HP.out.bl.size))).setCell qh.out.hg _).trans (((b4.mono (by omega)).setCell qh.out.hg _).trans (bA.mono (by omega))))
 have dH:Hid (gA<wA.heap.size/\gA∉S.fp/\gA≠w.heap.size/\gA≠w.heap.size+1):=aa ⟨by omega,fun q=>by have:=(HH.out.cF q).2;omega,by omega,by omega⟩
 have vo:Hid (wA.heap[w.heap.size]? =some (.cells (aK 3 at_ nn m_ (.slice sp zr.length cap) bt) 38 (0,0))):=aa ((ll _ (by omega) (by omega)).trans ((HB3.out.block _ (by omega)).trans HP.out.op))
 have vq:Hid (wA.heap[w.heap.size+1]? =some (.cells cf 46 (0,0))):=aa ((ll _ (by omega) (by omega)).trans ((HB3.out.block _ (by omega)).trans HP.out.an))
 have ky:Hid (∀k,k<w.heap.size->k∉W.fp->k≠gA/\wA.heap[k]? =w.heap[k]?):=aa (fun k e1 e2=>⟨by omega,(ll k (by omega) (fun e=>e2 ((W.mem _).2 (by simp [e])))).trans ((HB3.out.block k (by omega)).trans (HP.out.bl.block k e1))⟩)
 obtain⟨W1,hW0,tF,nO,nP⟩: ∃W1:List Int->Wr,WO wA base (W1 zA) (c+1)/\(∀(wa wb:World) (z z':List Int),WO wa base (W1 z) (c+1)->Own wb base (.slice (some ⟨gA,0,none⟩) 600 600) z'->z'.length=600->(∀k,k<wa.heap.size->k≠gA->wb.heap[k]? =wa.heap[k]?)->WO wb base (W1 z') (c+1))/\(∀z,((W1 z).g=W.g/\(W1 z).dl=W.dl/\(W1 z).tl=W.tl)/\ ∀k∈(W1 z).fp,k∈W.fp\/w.heap.size<=k)/\(∀z k,(W1 z).room.ownBlock=some k->k<wA.heap.size/\k∉S.fp/\k≠w.heap.size+1):=by
   refine⟨fun z=>{W with turn:=W.turn+1,room:= .slice (some ⟨g1,0,none⟩) 600 600,zr:=z1},Bh.out.below (by rw [World.size_setCell,tE];exact bA),fun wa wb z z' h1 h2 h3 h4=>h1.keep fun k hk=>h4 k (h1.ty hk).2.1 (fun e=>?_),fun z=>⟨⟨rfl,rfl,rfl⟩,qR (w5:=wA) (W:=W) w.heap.size rfl rfl (Or.inl rfl) (Or.inl rfl) (Or.inl rfl) (Or.inl rfl) (Or.inl rfl) (Or.inl rfl) (Or.inr ⟨g1,rfl,by omega⟩) (by have:=gF.out;omega)⟩,fun z k e=>?_⟩
   · have hk2:k∈W.fp\/k=g1:=by
       rcases(Wr.mem _ k).1 hk with q| q| q| q| q| q| q| q| q
       · exact Or.inl ((W.mem k).2 (Or.inl q))
       · exact Or.inl ((W.mem k).2 (Or.inr (Or.inl q)))
       · exact Or.inl ((W.mem k).2 (Or.inr (Or.inr (Or.inl q))))
       · exact Or.inl ((W.mem k).2 (Or.inr (Or.inr (Or.inr (Or.inl q)))))
       · exact Or.inl ((W.mem k).2 (Or.inr (Or.inr (Or.inr (Or.inr (Or.inl q))))))
       · exact Or.inl ((W.mem k).2 (Or.inr (Or.inr (Or.inr (Or.inr (Or.inr (Or.inl q)))))))
       · exact Or.inl ((W.mem k).2 (Or.inr (Or.inr (Or.inr (Or.inr (Or.inr (Or.inr (Or.inl q))))))))
       · exact Or.inl ((W.mem k).2 (Or.inr (Or.inr (Or.inr (Or.inr (Or.inr (Or.inr (Or.inr (Or.inl q)))))))))
       · exact Or.inr (by simpa [Value.ownBlock]using q.symm)
     rcases hk2 with q| q
     · have:=mv.out k q;omega
     · omega
   · obtain rfl:g1=k:=by simpa [Value.ownBlock]using e
     exact⟨by omega,fun q=>by have:=(HH.out.cF q).2;omega,by omega⟩
 have HW0:=aa hW0
 have kB:=aa tF
 have nQ:=aa nO
 have fE:=aa nP
 clear hW0 tF nO nP hgl2 Cg Ch ll hAe4 hz6 hz7 hO1 xF hs0 hs1 b4 bA hg hlt hlt2 hg1 tE Ex uL df6 hz1 oX TC TD TE ef6
 go_wp2_with fail
 go_loopw [13] (fun i wr=> ∃k:Nat,k<=600/\i= .int .i64 k/\Own wr base (.slice (some ⟨gA,0,none⟩) 600 600) (List.replicate k 250++zA.drop k)/\Bo.KV wA base (.slice (some ⟨gA,0,none⟩) 600 600) wr) (fun i _=>600-(intOf i).toNat)
 case atStart=>exact⟨0,by omega,rfl,Cf.out,Bo.KV.refl _ _ _⟩
 case round=>
   obtain⟨k,hk,rfl,hO,hK⟩:=hrel
   by_cases hkn:k<600
   · have i1:(k:Int)<600:=by omega
     have hlen:(List.replicate k (250:Int)++zA.drop k).length=600:=by rw [List.length_append,List.length_replicate,List.length_drop,nN.out];omega
     obtain⟨g,hg0,hg,c0,f0,cP⟩:=Bo.gi (m:=250) hO (by rw [hlen];exact hkn)
     obtain rfl:gA=g:=by injection hg0 with hg0;injection hg0
     have HR:=aa (show(List.replicate k (250:Int)++zA.drop k).set k 250=List.replicate (k+1) 250++zA.drop (k+1) by
       have xw:k<zA.length:=by rw [nN.out];exact hkn
       rw [List.set_append_right _ _ (by simp),List.length_replicate,Nat.sub_self,List.drop_eq_getElem_cons xw,List.set_cons_zero,List.replicate_succ',List.append_assoc];rfl)
     replace hlen:=aa hlen
     generalize (List.replicate k (250:Int)++zA.drop k).getD k 0=zz at*
     replace cP:=aa cP
     replace hO:=aa hO
     clear hg0
     go_wp2
     go_roundw
     case rel=>exact⟨k+1,by omega,by go_num,(by rw [<-HR.out];exact cP.out),hK.step (Bo.At.self _ _) ((Below.refl _ _).setCell hg _) (fun kk _ q2=>Bo.cI (show kk≠gA from fun e=>q2 (by rw [e];rfl)))⟩
     case measure=>simp [intOf];omega
   · obtain rfl:k=600:=by omega
     clear hkn
     rw [List.drop_of_length_le (by rw [nN.out];exact Nat.le_refl _),List.append_nil]at hO
     have HK:=aa hK
     have iJ:Hid (∀wr,Bo.KV wA base (.slice (some ⟨gA,0,none⟩) 600 600) wr->wr.heap[w.heap.size]? =some (.cells (aK 3 at_ nn m_ (.slice sp zr.length cap) bt) 38 (0,0))):=aa (fun wr q=>(q.2 _ (by have:=gF.out;omega) (fun e=>dH.out.2.2.1 (by simpa [Value.ownBlock]using e))).trans vo.out)
     have vr:Hid (∀wr,Bo.KV wA base (.slice (some ⟨gA,0,none⟩) 600 600) wr-> ∀j,j<zr.length-> ∃b o,sp=some ⟨b,o,none⟩/\wr.cell? ⟨b,o+j,none⟩=some (.int .u8 (zr.getD j 0))):=aa (fun wr q j hj=>by
       obtain⟨_,_,b,o,_,h2,h3⟩:=lY.out
       refine⟨b,o,h2 (by omega),?_⟩
       have hb:=tD.out (by omega) _ (h2 (by omega))
       exact((kx.out.trans q.1).cell (p:=⟨b,o+j,none⟩) hb).trans (h3 j hj))
     have hkk:(kk:Int)<=300:=by omega
     go_wp2_with fail
     go_loopw [14] (fun i wr=> ∃(j:Nat) (zs:List Int),j<=kk/\i= .int .i64 j/\Own wr base (.slice (some ⟨gA,0,none⟩) 600 600) zs/\zs.length=600/\aS zs/\zs=ja zr j/\Bo.KV wA base (.slice (some ⟨gA,0,none⟩) 600 600) wr) (fun i _=>kk-(intOf i).toNat)
     case atStart=>exact⟨0,List.replicate 600 250,by omega,rfl,hO,by simp,(by intro x hx;rw [List.eq_of_mem_replicate hx];exact⟨by omega,by omega⟩),(by unfold ja;simp),HK.out⟩
     case round=>
       clear hO hK HK
       obtain⟨j,zs,hj,rfl,hO,hzl,hz8,hmx,hK⟩:=hrel
       have nR:=aa hmx
       clear hmx
       by_cases Ci:j<kk
       · have i1:(j:Int)<(kk:Int):=by omega
         have i2:(j:Int)<600:=by omega
         have i3:(j:Int)<(zr.length:Int):=by omega
         obtain⟨rb,ro,rfl,cr⟩:=vr.out _ hK j (by omega)
         have ck4:wr.cell? ⟨w.heap.size,4,none⟩=some (.slice (some ⟨rb,ro,none⟩) zr.length cap):=by rw [cell_of_row _ _ _ _ _ _ (iJ.out _ hK)];rfl
         have Cj:=aa (show zs.set j (zr.getD j 0)=ja zr (j+1) by rw [nR.out];exact qX zr j (by omega) (by omega))
         have hy8:0<=zr.getD j 0/\zr.getD j 0<256:=Al H8.out j
         generalize zr.getD j 0=y at*
         obtain⟨g,hg0,hg,c0,f0,cP⟩:=Bo.gi (k:=j) (m:=y) hO (by rw [hzl];omega)
         obtain rfl:gA=g:=by injection hg0 with hg0;injection hg0
         have HS8:Hid (aS (zs.set j y)):=aa (fun x hx=>by
           rcases List.mem_or_eq_of_mem_set hx with q| q
           · exact hz8 x q
           · rw [q];exact hy8)
         generalize zs.getD j 0=zz at*
         replace cP:=aa cP
         replace hO:=aa hO
         replace hzl:=aa hzl
         clear hg0 hz8 hy8
         go_wp2
         go_roundw
         case rel=>exact⟨j+1,zs.set j y,by omega,by go_num,cP.out,by rw [List.length_set];exact hzl.out,HS8.out,Cj.out,hK.step (Bo.At.self _ _) ((Below.refl _ _).setCell hg _) (fun kk2 _ q2=>Bo.cI (show kk2≠gA from fun e=>q2 (by rw [e];rfl)))⟩
         case measure=>simp [intOf];omega
       · obtain rfl:j=kk:=by omega
         clear Ci
         have ck2:wr.cell? ⟨w.heap.size,2,none⟩=some (.int .i64 nn):=by rw [cell_of_row _ _ _ _ _ _ (iJ.out _ hK)];rfl
         have HO:=aa hO
         have HK:=aa hK
         have HZ8:=aa hz8
         have eu:=aa hzl
         clear hO hK hz8 hzl
         have F5: ∀k,k<w.heap.size->k∉W.fp->wr.heap[k]? =w.heap[k]? :=fun k e1 e2=>(HK.out.2 k (by have:=gF.out;omega) (fun e=>(ky.out k e1 e2).1 (by simpa [Value.ownBlock]using e.symm))).trans (ky.out k e1 e2).2
         have nT: ∀k∈S.fp,k∉W.fp:=fun k hk q=>qh.out.off HH.out kJ.out q hk
         have lB:=HK.out.1.size
         have tG:=gF.out
         have nU:SK wr base S:=HH.out.lh (fun k hk=>F5 k (HH.out.cF hk).2 (nT k hk)) (by omega)
         have tH:WO wr base (W1 zs) (c+1):=kB.out _ _ _ _ HW0.out HO.out eu.out (fun k hk q=>HK.out.2 k hk (fun e=>q (by simpa [Value.ownBlock]using e.symm)))
         have oM:zs.take j=zr.take 300:=by rw [nR.out,oT _ _ (by omega)];exact qi.out
         have hdr:zs.drop j=List.replicate (600-j) 250:=by rw [nR.out,oU _ _ (by omega)]
         have tI:=aa oM
         have Ck:=aa hdr
         clear oM hdr
         have hlk:(zs.take j).length=j:=by rw [List.length_take,eu.out];omega
         have lp:Src wr (some ⟨gA,0,none⟩) 600 (zs.take j):=by
           obtain⟨sx,cx,ex,⟨g1,g2,gb,go,g3,g4,g5⟩,_⟩:=HO.out.form
           injection ex with e1 _ e3
           subst e1 e3
           refine⟨by rw [hlk];omega,g2,gb,go,fun q=>g3 (by rw [eu.out];omega),fun q=>g4 (by rw [eu.out];omega),fun i hi=>?_⟩
           rw [hlk]at hi
           rw [fH _ _ _ _ hi]
           exact g5 i (by rw [eu.out];omega)
         have HST:=oP wr base S b nU HG.out (by omega) nn (zs.take j) (fun x hx=>HZ8.out x (List.mem_of_mem_take hx)) (by rw [hlk];omega) (some ⟨gA,0,none⟩) 600 lp (fun e=>by cases e)
         rw [hlk]at HST
         replace HST:=aa HST
         have HF5:=aa F5
         have QJ:=aa nT
         have Co:=aa nU
         have nV:=aa tH
         have nZ:=aa hlk
         have lZ:=aa lB
         clear tG F5 nT lB nU tH hlk lp
         go_wp2_with fail
         refine HST.out.mono ?_
         rintro e w6 ⟨S',q,E,rfl,hX6,hO6⟩
         have HX6:=aa (show nH S nn (zr.take 300) S' q E by rw [<-tI.out];exact hX6)
         clear hX6
         have HO6:=aa hO6
         have HM6:Hid (WO w6 base (W1 zs) (c+1)/\gK (W1 zs) S'/\wr.heap.size<=w6.heap.size/\w6.heap[w.heap.size]? =some (.cells (aK 3 at_ nn m_ (.slice sp zr.length cap) bt) 38 (0,0))/\gA∉S'.fp/\Own w6 base (.slice (some ⟨gA,0,none⟩) 600 600) zs):=aa (by
           obtain⟨_,hb,hf,hg⟩:=hO6
           have lB:=lZ.out
           have tG:=gF.out
           refine⟨nV.out.keep fun k hk=>hf.block k (nV.out.ty hk).2.1 (nV.out.off Co.out (fun k e=>(fE.out _ k e).2.1) hk),fun k e z=>?_,hf.size,(hf.block _ (by omega) (fun z=>by have:=(HH.out.cF z).2;omega)).trans (iJ.out _ HK.out),fun z=>?_,HO.out.of_heap fun k e=>?_⟩
           · rcases hg k z with z| z
             · exact(fE.out _ k e).2.1 z
             · have:=(fE.out _ k e).1;omega
           · rcases hg gA z with z| z
             · exact dH.out.2.1 z
             · have:=dH.out.1;omega
           · obtain rfl:gA=k:=by simpa [Value.ownBlock]using e
             exact hf.block _ (by have:=dH.out.1;omega) dH.out.2.1)
         have HBW6:Hid (Below base w w6):=aa ((kx.out.trans HK.out.1).trans hO6.2.1)
         have k46:w6.cell? ⟨w.heap.size,4,none⟩=some (.slice sp zr.length cap):=by rw [cell_of_row _ _ _ _ _ _ HM6.out.2.2.2.1];rfl
         have hsrc6:Src w6 sp cap zr:=by
           obtain⟨g1,g2,gb,go,g3,g4,g5⟩:=lY.out
           have hsz:=HBW6.out.size
           exact⟨g1,g2,gb,go,fun q=>by have:=g3 q;omega,g4,fun i hi=>(HBW6.out.cell (p:=⟨gb,go+i,none⟩) (show gb<base from tD.out (by omega) ⟨gb,go,none⟩ (g4 (by omega)))).trans (g5 i hi)⟩
         have HSH6:=aa (eZ w6 zr sp cap hsrc6 (by have:=jk.out;omega) 300 (by omega))
         clear hO6 HST hsrc6 ck2
         go_wp2_with fail
         refine HSH6.out.mono ?_
         rintro e w7 ⟨v7,rfl,hO7,hb7⟩
         obtain⟨s7,c7,rfl,hsrc7,_⟩:=hO7.form
         have HB7:=aa hb7
         have hsrcA7:Src w7 (some ⟨gA,0,none⟩) 600 (zs.take j):=by
           have hO:=HM6.out.2.2.2.2.2.below hb7 (Nat.le_refl _)
           obtain⟨sx,cx,ex,⟨g1,g2,gb,go,g3,g4,g5⟩,_⟩:=hO.form
           injection ex with e1 _ e3
           subst e1 e3
           refine⟨by rw [nZ.out];omega,g2,gb,go,fun q=>g3 (by show 0<zs.length;rw [eu.out];omega),fun q=>g4 (by show 0<zs.length;rw [eu.out];omega),fun i hi=>?_⟩
           rw [nZ.out]at hi
           rw [fH _ _ _ _ hi]
           exact g5 i (by show i<zs.length;rw [eu.out];omega)
         have iz:=kg w7 (zs.take j) (zr.take 300) (some ⟨gA,0,none⟩) s7 600 c7 hsrcA7 hsrc7
         rw [nZ.out,List.length_take,decide_eq_true tI.out]at iz
         replace iz:=aa iz
         clear hO7 hb7 hsrc7 hsrcA7
         go_wp2_with fail
         refine iz.out.mono ?_
         rintro e w8 ⟨rfl,hb8⟩
         have HB8:=aa hb8
         clear hb8
         have ux:Hid (∀wX,Below base w6 wX->(∀k,k<w6.heap.size->k≠gA->wX.heap[k]? =w6.heap[k]?)->(∃z,Own wX base (.slice (some ⟨gA,0,none⟩) 600 600) z/\z.length=600)->wX.heap[w.heap.size+1]? =some (.cells cf 46 (0,0))/\iZ w base S 3 nn zr W c (.returned (.agg (cT E q (.slice none 0 0) sup0 0 0 0 0 0))) (wX.setRow (w.heap.size+1) (cT E q (.slice none 0 0) sup0 0 0 0 0 0))):=aa (fun wX qj hkX ⟨z,Cp,Cq⟩=>by
           have e1:=gF.out
           have e2:=lZ.out
           have e3:=HM6.out.2.2.1
           have e4:=dH.out.1
           obtain⟨hS6,_,hf6,_⟩:=HO6.out
           have nS: ∀k∈S'.fp,k≠gA:=fun k hk q=>HM6.out.2.2.2.2.1 (q▸hk)
           have nW: ∀k,k<w.heap.size->k∉W.fp->k≠gA:=fun k l hk=>(ky.out k l hk).1
           have Cr:WO wX base (W1 z) (c+1):=kB.out _ _ _ _ HM6.out.1 Cp Cq hkX
           have ha:wX.heap[w.heap.size+1]? =some (.cells cf 46 (0,0)):=by
             refine(hkX _ (by omega) (fun q=>dH.out.2.2.2 q.symm)).trans ((hf6.block _ (by omega) (fun q=>by have:=(HH.out.cF q).2;omega)).trans ((HK.out.2 _ (by omega) (fun q=>dH.out.2.2.2 (by simpa [Value.ownBlock]using q))).trans vq.out))
           refine⟨ha,?_⟩
           have fL: ∀k,(W1 z).room.ownBlock=some k->k∉S'.fp/\k≠w.heap.size+1:=fun k q=>by
             refine⟨fun q2=>?_,(fE.out _ k q).2.2⟩
             obtain⟨_,_,_,hg⟩:=HO6.out
             rcases hg k q2 with z| z
             · exact(fE.out _ k q).2.1 z
             · have:=(fE.out _ k q).1;omega
           obtain⟨z1,z2,z3,z4,z5,z6⟩:=qV HH.out HF5.out (kx.out.trans HK.out.1) (by omega) HO6.out (fun k hk=>hkX k (hS6.cF hk).2 (nS k hk)) (fun k l1 l2=>hkX k (by omega) (nW k l1 l2)) qj Cr ha fL (cT E q (.slice none 0 0) sup0 0 0 0 0 0)
           exact⟨S',W1 z,E,q, .slice none 0 0,[],sup0,0,0,0,0,0,rfl,⟨Own.nil _ _,fun k e=>by simp [Value.ownBlock]at e⟩,Or.inr (Or.inl ⟨rfl,HX6.out,rfl,rfl,rfl⟩),z1,z2,z3,(nQ.out _).1,z4,z5,z6,(nQ.out _).2⟩)
         have vt:Hid (∀wX,Below w6.heap.size w6 wX-> ∃z,Own wX base (.slice (some ⟨gA,0,none⟩) 600 600) z/\z.length=600):=aa (fun wX q=>by
           have hO:=HM6.out.2.2.2.2.2.below q (Nat.le_refl _)
           exact⟨_,hO,eu.out⟩)
         have HB68:Hid (Below w6.heap.size w6 w8):=aa (HB7.out.trans (HB8.out.mono HB7.out.size))
         have vw:Hid (base<=w6.heap.size):=aa (Nat.le_trans HH.out.base HBW6.out.size)
         have lq:Src w8 (some ⟨gA,j,none⟩) (600-j) (zs.drop j):=by
           have hO:=HM6.out.2.2.2.2.2.below HB68.out (Nat.le_refl _)
           obtain⟨sx,cx,ex,⟨g1,g2,gb,go,g3,g4,g5⟩,_⟩:=hO.form
           injection ex with e1 _ e3
           subst e1 e3
           have e6:zs.length=600:=eu.out
           replace g1:zs.length<=600:=g1
           replace g3:0<zs.length->gb<w8.heap.size:=g3
           replace g4:0<zs.length->some (⟨gA,0,none⟩:Addr)=some (⟨gb,go,none⟩:Addr):=g4
           replace g5: ∀i,i<zs.length->w8.cell? ⟨gb,go+i,none⟩=some (.int .u8 (zs.getD i 0)):=g5
           have e7:=g4 (by omega)
           injection e7 with e7
           injection e7 with e8 e9 _
           subst e8 e9
           refine⟨by rw [List.length_drop];omega,by omega,gA,j,fun _=>g3 (by omega),fun _=>rfl,fun i hi=>?_⟩
           rw [List.length_drop]at hi
           have:=g5 (j+i) (by omega)
           rw [Nat.zero_add]at this
           rw [this]
           simp [List.getD,List.getElem?_drop]
         have jH:=qU w8 (zs.drop j) (some ⟨gA,j,none⟩) (600-j) lq 250 (600-j) (by rw [List.length_drop,eu.out]) (by omega) (fun i hi=>by rw [Ck.out,List.getD_eq_getElem?_getD,List.getElem?_replicate,if_pos hi];rfl)
         rw [show((600-j:Nat):Int)=600-(j:Int) by omega]at jH
         replace jH:=aa jH
         clear lq
         go_wp2_with fail
         refine jH.out.mono ?_
         rintro e w9 ⟨rfl,hb9⟩
         have HB69:Hid (Below w6.heap.size w6 w9):=aa (HB68.out.trans (hb9.mono HB68.out.size))
         clear hb9 jH
         obtain⟨z9,hz9,hl9⟩:=vt.out w9 HB69.out
         go_wp2_with fail
         go_loopw [18] (fun i wr=> ∃(t:Nat) (z:List Int),t<=j/\i= .int .i64 t/\Own wr base (.slice (some ⟨gA,0,none⟩) 600 600) z/\z.length=600/\Bo.KV w9 base (.slice (some ⟨gA,0,none⟩) 600 600) wr) (fun i _=>j-(intOf i).toNat)
         case atStart=>exact⟨0,z9,by omega,rfl,hz9,hl9,Bo.KV.refl _ _ _⟩
         case round=>
           clear hz9 hl9
           obtain⟨t,z,ht,rfl,hO,hzl,hK9⟩:=hrel
           by_cases xx:t<j
           · have i1:(t:Int)<(j:Int):=by omega
             obtain⟨g,hg0,hg,c0,f0,cP⟩:=Bo.gi (k:=t) (m:=251) hO (by rw [hzl];omega)
             obtain rfl:gA=g:=by injection hg0 with hg0;injection hg0
             generalize z.getD t 0=zz at*
             replace cP:=aa cP
             replace hO:=aa hO
             replace hzl:=aa hzl
             clear hg0
             go_wp2
             go_roundw
             case rel=>exact⟨t+1,z.set t 251,by omega,by go_num,cP.out,by rw [List.length_set];exact hzl.out,hK9.step (Bo.At.self _ _) ((Below.refl _ _).setCell hg _) (fun kk2 _ q2=>Bo.cI (show kk2≠gA from fun e=>q2 (by rw [e];rfl)))⟩
             case measure=>simp [intOf];omega
           · obtain rfl:t=j:=by omega
             clear xx
             have H9:=aa (ux.out _ ((HB69.out.mono vw.out).trans hK9.1) (fun k q r=>(hK9.2 k (Nat.lt_of_lt_of_le q HB69.out.size) (fun e=>r (by simpa [Value.ownBlock]using e.symm))).trans (HB69.out.block k q)) ⟨z,hO,hzl⟩)
             have HS0:=aa (show cf.size=(cT E q (.slice none 0 0) sup0 0 0 0 0 0).size from rfl)
             have iO:=aa (oQ E q none 0 0 sup0 0 0 0 0 0)
             have iP:=aa (ia E q (.slice none 0 0) sup0 0 0 0 0 0)
             go_wp2_with (first| (refine wpList_store_row rfl 46 (.tmp 6) (.tmp 187) rfl (w.heap.size+1) (cT E q (.slice none 0 0) sup0 0 0 0 0 0) rfl rfl 46 cf H9.out.1 iP.out HS0.out iO.out ?_)| fail)
             refine bodyPost_ret (bf Tryz.results24 _ _ (w.heap.size+1) 46 _ _ _ (by first| rfl| simp) (setRow_heap _ _ _ _ _ _ H9.out.1) Tryz.underlying46 rfl (ia _ _ _ _ _ _ _ _ _)) rfl ?_
             exact H9.out.2
end Go.Proofs.YtpdakmhnnkaafaaGreat

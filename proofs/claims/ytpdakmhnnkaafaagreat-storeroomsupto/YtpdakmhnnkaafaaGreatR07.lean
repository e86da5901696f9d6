import Derived.Maps.RangeWalk
import Derived.Test.YtpdakmhnnkaafaaGreatR06
import Derived.Test.YtpdakmhnnkaafaaGreatR04
namespace Go.Proofs.YtpdakmhnnkaafaaGreat
set_option maxRecDepth 100000
set_option maxHeartbeats 40000000
set_option linter.unusedVariables false
set_option linter.unusedSimpArgs false
open Go.RowKit
attribute [local go_sem ↓] Go.wp_at_zero Go.wp_at_succ
theorem Hc(w:World)(base:Nat)(P:DP)(D:DS)(h:DK w base P D)(hok:cC D)(cM:D.power=true)(wk:D.armed=1):
   Calls Tryz.prog 59 #[.pointer (some ⟨P.p,0,none⟩)] w fun e w'=>e= .returned (.int .i64 2)/\DK w' base P D.bn/\Fr P.fp w w':=by
 have c7:=h.c7
 rw [cM]at c7
 have HA:=vU w base P D h hok.armed
 have ha0:D.eW=2:=by unfold DS.eW;rw [if_pos wk]
 rw [ha0]at HA
 have wm:=aa HA
 clear cM h HA ha0 wk
 go_enter Tryz.func59,Tryz.ntmps59
 go_wp2_with (go_at_call 83;refine wm.out.mono ?_;rintro e w1 ⟨rfl,h1,f1⟩)
 go_ret
 exact⟨rfl,h1,f1⟩
def dw(af:List Int)(o:OW)(f:Nat):Nat->List Int
 | 0=>af
 | j+1=>if f.testBit j then putAt (dw af o f j) (o.page*256+j*64) ((o.data.drop (j*64)).take 64)else dw af o f j
theorem Pm(w:World)(N l h:Nat)(h1:l<h)(h2:h<=256):(Instr.sliceAt 101 (.pointer (some ⟨N,1,none⟩)) (some (.int .i64 (l:Nat))) (some (.int .i64 (h:Nat))) none).run Tryz.prog w= .ok (.slice (some ⟨N,1+l,none⟩) (h-l) (256-l)) w:=by
 have hl:Tryz.prog.arrayLen 101=256:=by kernel_rfl
 have hz:(sizeOf (Tryz.prog.elem 101)).run Tryz.prog w= .ok 1 w:=by kernel_rfl
 rw [run_sliceAt_array_lh w 101 ⟨N,1,none⟩ (by kernel_rfl) .i64 .i64 l h (by omega) (by omega) (by rw [hl];omega),hz,hl]
 simp only [Result.andThen_ok,slicedAt,Int.toNat_natCast,Nat.mul_one,if_neg (show¬256=l by omega),Addr.add_mid]
theorem Nz: ∀x,x<256->bits .and .u8 ((x:Nat):Int) 1=((x%2:Nat):Int):=by decide+kernel
theorem Po(f j:Nat)(hf:f<256):(bits .and .u8 ((f:Int)/2^j) 1==1)=f.testBit j:=by
 have e:((f:Int)/2^j)=((f/2^j:Nat):Int):=by push_cast;rfl
 rw [e,Nz _ (Nat.lt_of_le_of_lt (Nat.div_le_self _ _) hf),<-Nat.toNat_testBit]
 cases f.testBit j<;>rfl
theorem kR{af:List Int}{n:Nat}{o:OW}(f:Nat)(h:af.length=256*n)(ho:gB n o): ∀j,j<=4->(dw af o f j).length=256*n
 | 0,_=>h
 | j+1,hj=>by
   have ih:=kR f h ho j (by omega)
   obtain⟨h1,h2,h3⟩:=ho
   unfold dw
   split
   · rw [yX _ _ _ (by rw [ih,List.length_take,List.length_drop,h2];omega),ih]
   · exact ih
theorem wq{af:List Int}{o:OW}(f:Nat)(h:jC af)(ho:jC o.data): ∀j,jC (dw af o f j)
 | 0=>h
 | j+1=>by
   have ih:=wq f h ho j
   unfold dw
   split
   · exact yY _ ih (fun x hx=>ho x (List.mem_of_mem_drop (List.mem_of_mem_take hx)))
   · exact ih
theorem Hd{w:World}{g:Nat}{x:OW}(h:w.rangeAt g 0 (bF x))(hg:g<w.heap.size)(hd:x.data.length=256)(k l cap:Nat)(hk:k+l<=256)(hc:l<=cap)(hm:cap<=maxLen):Src w (some ⟨g,1+k,none⟩) cap ((x.data.drop k).take l):=by
 have el:((x.data.drop k).take l).length=l:=by simp;omega
 refine⟨by omega,hm,g,1+k,fun _=>hg,fun _=>rfl,fun j hj=>?_⟩
 rw [el]at hj
 have:=h (1+k+j) (.int .u8 (((x.data.drop k).take l).getD j 0)) (by
   rw [show 1+k+j=(k+j)+1 by omega,bF,List.getElem?_cons_succ,fx _ _ _ (by omega)]
   simp [List.getElem?_take,hj])
 rwa [Nat.zero_add]at this
theorem NA(w:World)(base:Nat)(P:DP)(D:DS)(h:DK w base P D)(n:Nat)(hn:D.af.length=256*n)(h4:n<=4096)(o:OW)(ho:gB n o)(f:Nat)(hf:f<256):
   Calls Tryz.prog 43 #[.pointer (some ⟨P.p,0,none⟩), .agg (bF o).toArray, .int .u8 f] w fun e w'=>e= .returned (.tuple #[])/\DK w' base P {D with af:=dw D.af o f 4}/\Fr P.fp w w':=by
 have sK:=aa (fun j hj=>kR f hn ho j hj)
 obtain⟨fY,iC,rq⟩:=ho
 have hel:(bF o).length=257:=by rw [bF,List.length_cons,aI,iC]
 have hA:=h.below ((Below.refl _ w).alloc (Nat.le_refl _) (.cells (bF o).toArray 103))
 have iL:=(Fr.refl P.fp w).alloc (.cells (bF o).toArray 103)
 have gN:=aF w (.cells (bF o).toArray 103)
 have Mi:=aa (qE _ base _ _ hA n hn h4 o.page fY)
 have KN0:(w.alloc (.cells (bF o).toArray 103)).cell? ⟨w.heap.size,0,none⟩=some (.int .i64 o.page):=by rw [cell_of_row _ _ _ _ _ _ gN];rfl
 have Sr:P.gc<=9223372036854775807:=by have:=h.gm;unfold maxLen at this;omega
 have kz:256*n<=P.gc:=by have:=h.gl;omega
 have Sv:P.g≠w.heap.size:=by have:=hlt h.im;omega
 clear h hn
 obtain⟨p,g,m,gc,ov,rs,M⟩:=P
 simp only at*
 go_enter Tryz.func43,Tryz.ntmps43
 go_wp2_with (go_at_call 46;refine Mi.out.mono ?_;rintro e w1 ⟨rfl,rfl⟩)
 generalize yU:w.heap.size=N at*
 clear Mi KN0 yU
 go_loopw [14] (fun jv wr=> ∃j:Nat,j<=4/\jv= .int .i64 j/\DK wr base ⟨p,g,m,gc,ov,rs,M⟩ {D with af:=dw D.af o f j}/\Fr (DP.mk p g m gc ov rs M).fp w wr/\wr.heap[N]? =some (.cells (bF o).toArray 103 (0,0))) (fun jv _=>4-(intOf jv).toNat)
 case atStart=>exact⟨0,by omega,rfl,hA,iL,gN⟩
 case round=>
   clear hA iL gN
   obtain⟨j,hj,rfl,hD,hF,He⟩:=hrel
   by_cases hlt:j<4
   · have i1:(j:Int)<4:=by omega
     have hb:=Po f j hf
     have kQ:=sK.out j hj
     cases hc:f.testBit j with
     | false=>
       rw [hc]at hb
       have HT:=aa (show dw D.af o f (j+1)=dw D.af o f j by rw [dw,hc];rfl)
       clear hc
       go_wp2
       go_roundw
       case rel=>exact⟨j+1,by omega,by go_num,by rw [HT.out];exact hD,hF,He⟩
       case measure=>simp [intOf];omega
     | true=>
       rw [hc]at hb
       have hTe:dw D.af o f (j+1)=putAt (dw D.af o f j) (o.page*256+j*64) ((o.data.drop (j*64)).take 64):=by rw [dw,hc];rfl
       have hdd:((o.data.drop (j*64)).take 64).length=64:=by simp;omega
       have hD1:=hD.drew
       have nv:=aa hD1.im
       have KC:=aa (show(ints .u8 ((o.data.drop (j*64)).take 64)).length=Nat.min ((j+1)*64-j*64) ((j+1)*64-j*64) by rw [aI,hdd,show(j+1)*64-j*64=64 by omega];decide)
       have Ki:=aa (qw (Hd (yK (show wr.drew.heap[N]? =_ from He)) (aC He) iC (j*64) 64 64 (by omega) (Nat.le_refl _) (by unfold maxLen;omega)))
       have Kj:=aa (show o.page*256+j*64+(ints .u8 ((o.data.drop (j*64)).take 64)).length<=(ints .u8 (dw D.af o f j)++rs).length by rw [aI,List.length_append,aI,hdd,kQ];omega)
       have Pk:=aa (show(ints .u8 (dw D.af o f j)++rs).take (o.page*256+j*64)++ints .u8 ((o.data.drop (j*64)).take 64)++(ints .u8 (dw D.af o f j)++rs).drop (o.page*256+j*64+(ints .u8 ((o.data.drop (j*64)).take 64)).length)=ints .u8 (dw D.af o f (j+1))++rs by rw [wj _ _ _ _ (by omega),hTe])
       have AW:=aa (hD1.GZ (dw D.af o f (j+1)) (by show _=(dw D.af o f j).length;rw [kQ,sK.out (j+1) (by omega)]))
       have AX:=aa (hF.drew.setRow hD.hg (ints .u8 (dw D.af o f (j+1))++rs).toArray)
       have Vo:=aa (show(wr.drew.setRow g (ints .u8 (dw D.af o f (j+1))++rs).toArray).heap[N]? =some (.cells (bF o).toArray 103 (0,0)) by rw [setRow_other _ _ _ _ (fun e=>Sv e.symm)];exact He)
       clear hc hD1 hD hF He hTe hdd kQ iC rq hel
       have i2:o.page*256+j*64+64<=gc:=by omega
       have SL:=aa (fun w=>(show(Instr.sliceAt 101 (.pointer (some ⟨N,1,none⟩)) (some (.int .i64 ((j:Int)*64))) (some (.int .i64 (((j:Int)+1)*64))) none).run Tryz.prog w= .ok (.slice (some ⟨N,1+j*64,none⟩) ((j+1)*64-j*64) (256-j*64)) w by have h:=Pm w N (j*64) ((j+1)*64) (by omega) (by omega);push_cast at h;exact h))
       go_wp2
       refine wp_region_noPanic ?_
       refine wp_region_held_drew (S:=fun _=>True) (by kernel_rfl) trivial (fun hHeld=>?_)
       refine ai 0 (.slice (some ⟨g,o.page*256,none⟩) 256 (gc-o.page*256)) rfl hHeld ?_
       try go_frame
       refine ai 1 (.int .i64 (j*64)) rfl hHeld ?_
       try go_frame
       refine ai 2 (.int .i64 ((j+1)*64)) rfl hHeld ?_
       try go_frame
       refine ai 4 (.pointer (some ⟨N,1,none⟩)) rfl hHeld ?_
       try go_frame
       refine ai 5 (.int .i64 (j*64)) rfl hHeld ?_
       try go_frame
       refine ai 6 (.int .i64 ((j+1)*64)) rfl hHeld ?_
       try go_frame
       refine aV 3 (.slice (some ⟨g,o.page*256+j*64,none⟩) ((j+1)*64-j*64) (gc-o.page*256-j*64)) rfl (yA (by intro w hS;go_simp;have q1:((j:Int)*64).toNat=j*64:=(by omega);have q2:(((j:Int)+1)*64).toNat=(j+1)*64:=(by omega);rw [if_pos ⟨by omega,by omega⟩,if_pos ⟨by omega,by omega⟩,q1,q2,if_neg (by omega)])) hHeld ?_
       try go_frame
       refine aV 7 (.slice (some ⟨N,1+j*64,none⟩) ((j+1)*64-j*64) (256-j*64)) rfl (yA (by intro w hS;have hq:=SL.out w;go_simp)) hHeld ?_
       try go_frame
       refine bR 8 rfl (fun K hK=>?_)
       refine mz rfl (.tmp 30) (.tmp 34) 31 31 rfl 5 Tryz.underlying31 Tryz.size5 ⟨N,1+j*64,none⟩ ((j+1)*64-j*64) (gc-o.page*256-j*64) ((j+1)*64-j*64) (256-j*64) g (o.page*256+j*64) rfl rfl _ 5 nv.out (ints .u8 ((o.data.drop (j*64)).take 64)) KC.out Ki.out Kj.out (dR .u8 _) ?_
       refine hK.out _ _ (trivial) ?_
       clear hK K hHeld
       intro hHeld
       try go_frame
       refine dY ?_
       clear hHeld
       rw [Pk.out]
       go_wp2
       go_roundw
       case rel=>exact⟨j+1,by omega,by go_num,AW.out,AX.out,Vo.out⟩
       case measure=>simp [intOf];omega
   · obtain rfl:j=4:=by omega
     clear hlt
     go_wp2
     go_end0
     exact⟨rfl,hD,hF⟩
def jd(fs:List Int)(i:Nat):Nat:=(fs.getD i 0).toNat
def bP(af:List Int)(ops:List OW)(fs:List Int):Nat->List Int
 | 0=>af
 | i+1=>if i<fs.length then dw (bP af ops fs i) (ops.getD i dW) (jd fs i) 4 else bP af ops fs i
theorem fG{af:List Int}{ops:List OW}{n:Nat}(fs:List Int)(h:af.length=256*n)(ho: ∀o∈ops,gB n o): ∀i,i<=ops.length->(bP af ops fs i).length=256*n
 | 0,_=>h
 | i+1,hi=>by
   have ih:=fG fs h ho i (by omega)
   unfold bP
   split
   · exact kR _ ih (ho _ (fj ops i (by omega))) 4 (Nat.le_refl _)
   · exact ih
theorem lQ{af:List Int}{ops:List OW}{n:Nat}(fs:List Int)(h:jC af)(ho: ∀o∈ops,gB n o): ∀i,i<=ops.length->jC (bP af ops fs i)
 | 0,_=>h
 | i+1,hi=>by
   have ih:=lQ fs h ho i (by omega)
   unfold bP
   split
   · exact wq _ ih (ho _ (fj ops i (by omega))).2.2 4
   · exact ih
def DS.crashed(D:DS)(fs:List Int):DS:={D with af:=bP D.af D.ops fs D.ops.length,ops:= [],power:=true,armed:=0,ag:=D.ag+1}
theorem Kk(w:World)(base:Nat)(P:DP)(D:DS)(h:DK w base P D)(hok:cC D)(je:D.ag<4000000000000000000)(fs:List Int)(mM:jC fs)(sp:Option Addr)(uV:Nat)(hS:Src w sp uV fs)(Hf: ∀a,0<fs.length->sp=some a->a.block∉P.fp):
   Calls Tryz.prog 20 #[.pointer (some ⟨P.p,0,none⟩), .slice sp fs.length uV] w fun e w'=>e= .returned (.int .i64 D.ops.length)/\DK w' base {P with ov:= .slice none 0 0,M:= .map []} (D.crashed fs)/\Fr P.fp w w':=by
 obtain⟨h3,h4,hn,hop⟩:=hok.np
 have vW:=hok.ops
 have ep:=hok.ag
 have eb:D.ag+1<=9223372036854775807:=by omega
 have eb0:0<=D.ag:=ep.1
 have k5:=h.c5
 obtain⟨jD,eX,sI⟩:=ei h.opn
 have Ph:=aa (fun(i:Nat) (hi:i<=D.ops.length)=>(show cC {D with af:=bP D.af D.ops fs i}from⟨⟨D.np,h3,h4,fG fs hn hop i hi,hop⟩,lQ fs hok.bts hop i hi,vW,hok.reads,hok.writes,hok.aA,hok.ag,hok.armed⟩))
 have oC:=aa (fun(i:Nat) (hi:i<=D.ops.length)=>fG fs hn hop i hi)
 have Hb:DK w base P {D with af:=bP D.af D.ops fs 0}:=h
 have XN:fs.length<=9223372036854775807:=by have:=hS.1;have:=hS.2.1;unfold maxLen at this;omega
 obtain⟨wu,Vp,fb,fo,hfb1,Pq,Mj⟩:=hS
 have iJ:=aa hop
 have Pr:=aa mM
 have Sw:=aa Mj
 have eL:=aa hfb1
 have Ps:=aa Pq
 have XO:(fs.length:Int)<=9223372036854775807:=by omega
 clear h hn hop hok je Vp mM Mj hfb1 Pq ep
 obtain⟨p,g,m,gc,ov,rs,M⟩:=P
 simp only at*
 subst sI
 go_enter Tryz.func20,Tryz.ntmps20
 go_wp2
 clear k5
 go_loopw [18] (fun iv wr=> ∃i:Nat,i<=D.ops.length/\iv= .int .i64 i/\DK wr base ⟨p,g,m,gc, .slice jD D.ops.length eX,rs,M⟩ {D with af:=bP D.af D.ops fs i}/\Fr (DP.mk p g m gc (.slice jD D.ops.length eX) rs M).fp w wr) (fun iv _=>D.ops.length-(intOf iv).toNat)
 case atStart=>exact⟨0,by omega,rfl,Hb,Fr.refl _ _⟩
 case round=>
   clear Hb
   obtain⟨i,hi,rfl,hD,hF⟩:=hrel
   by_cases hlt:i<D.ops.length
   · have i1:(i:Int)<(D.ops.length:Int):=by omega
     obtain⟨go,cap,e1,e2,e3,e4,e5,rg⟩:=hD.opAt (Ph.out i hi) i hlt
     simp only [Value.slice.injEq]at e1
     obtain⟨rfl,Pj,rfl⟩:=e1
     clear Pj
     simp only at rg
     obtain⟨o,ho⟩: ∃o,o=D.ops.getD i dW:=⟨_,rfl⟩
     rw [<-ho]at rg
     have Eg:gB D.np o:=by rw [ho];exact iJ.out _ (fj _ _ hlt)
     have kQ:=oC.out i hi
     have hel:=Eg.len
     have oB:(Tryz.prog.info? 103).map (·.size)=some (bF o).length:=by rw [tT,hel]
     obtain⟨Z0,hZ0⟩: ∃Z,Z=zW 0:=⟨_,rfl⟩
     have HZ0:=aa hZ0
     have g1:=aa (aF wr (.cells Z0.toArray 103))
     have K1:=aa (show(Tryz.prog.info? 103).map (·.size)=some (bF o).toArray.size by rw [tT,List.size_toArray,hel])
     have K2:=aa (show Z0.toArray.size=(bF o).toArray.size by rw [hZ0,List.size_toArray,List.size_toArray,pU,hel])
     have oo:=aa (all_oneCell_toArray (qD o))
     have hA:=hD.below ((Below.refl _ wr).alloc (Nat.le_refl _) (.cells (bF o).toArray 103))
     have iL:=hF.alloc (.cells (bF o).toArray 103)
     have gN:=aF wr (.cells (bF o).toArray 103)
     clear e2 e3 e4 e5 hZ0
     by_cases hfl2:i<fs.length
     · have i2:(i:Int)<(fs.length:Int):=by omega
       have HS:=aa (show bP D.af D.ops fs (i+1)=dw (bP D.af D.ops fs i) o (jd fs i) 4 by rw [bP,if_pos hfl2,<-ho])
       clear ho
       have hsp:=Ps.out (by omega)
       subst hsp
       have Up:=eL.out (by omega)
       have Vq:=Pr.out.get i
       obtain⟨f,hf⟩: ∃f:Nat,(f:Int)=fs.getD i 0:=⟨(fs.getD i 0).toNat,by omega⟩
       have hfo:jd fs i=f:=by unfold jd;omega
       have hf256:f<256:=by omega
       rw [hfo]at HS
       have Vr:=aa (NA _ base _ _ hA.drew D.np kQ h4 o Eg f hf256)
       have Sx:(wr.alloc (.cells (bF o).toArray 103)).heap[fb]? =w.heap[fb]? :=iL.block fb Up (Hf _ (by omega) rfl)
       have Sy:(wr.alloc (.cells (bF o).toArray 103)).cell? ⟨fb,fo+i,none⟩=some (.int .u8 f):=by
         rw [World.cell?,Sx,hf];exact Sw.out i hfl2
       have Pt:=aa (show(wr.alloc (.cells (bF o).toArray 103)).drew.rangeAt wr.heap.size 0 (bF o)/\(wr.alloc (.cells (bF o).toArray 103)).drew.cell? ⟨fb,fo+i,none⟩=some (.int .u8 f)from⟨yK (show(wr.alloc (.cells (bF o).toArray 103)).drew.heap[wr.heap.size]? =_ from gN),Sy⟩)
       have Eh:wr.heap.size∉(DP.mk p g m gc (.slice (some ⟨go,0,none⟩) D.ops.length eX) rs M).fp:=fun e=>by have:=(hD.lt _ e).2;omega
       have Fp:=aa (fun(w4:World) (hF4:Fr (DP.mk p g m gc (.slice (some ⟨go,0,none⟩) D.ops.length eX) rs M).fp (wr.alloc (.cells (bF o).toArray 103)).drew w4)=>(show w4.rangeAt wr.heap.size 0 (bF o)/\w4.cell? ⟨fb,fo+i,none⟩=some (.int .u8 f)from
         ⟨jT Pt.out.1 (hF4.block _ (aC gN) Eh),by rw [World.cell?,hF4.block fb (by have:=iL.size;show fb<(wr.alloc (.cells (bF o).toArray 103)).heap.size;omega) (Hf _ (by omega) rfl)];exact Pt.out.2⟩))
       have AW:=aa (fun(w4:World) (hD4:DK w4 base (DP.mk p g m gc (.slice (some ⟨go,0,none⟩) D.ops.length eX) rs M) {D with af:=dw (bP D.af D.ops fs i) o f 4})=>(show DK w4 base (DP.mk p g m gc (.slice (some ⟨go,0,none⟩) D.ops.length eX) rs M) {D with af:=bP D.af D.ops fs (i+1)} by rw [HS.out];exact hD4))
       have AX:=aa (fun(w4:World) (hF4:Fr (DP.mk p g m gc (.slice (some ⟨go,0,none⟩) D.ops.length eX) rs M).fp (wr.alloc (.cells (bF o).toArray 103)).drew w4)=>iL.drew.trans hF4 (Gr.refl _ _))
       clear hD hF hA iL gN Eh Sx kQ hel Sw eL Pr Vq hf hfo Eg Hf Ps
       go_wp2_with (first
         | refine wpList_load_mid rfl 103 _ rfl go (i*257) rfl _ _ rg Tryz.underlying103 rfl oB ?_
         | refine jX rfl rfl Z0 HZ0.out ?_
         | (refine wpList_store_row rfl 103 _ _ rfl wr.heap.size _ rfl rfl 103 _ g1.out K1.out K2.out oo.out ?_;rw [aP]))
       clear g1 K1 K2 oo HZ0 rg Sy
       generalize yU:wr.heap.size=N at*
       clear yU
       refine wp_region_noPanic ?_
       refine wp_region_held_drew (S:=fun w'=>w'.rangeAt N 0 (bF o)/\w'.cell? ⟨fb,fo+i,none⟩=some (.int .u8 f)) (by kernel_rfl) Pt.out (fun hHeld=>?_)
       refine ai 0 (.pointer (some ⟨p,0,none⟩)) rfl hHeld ?_
       try go_frame
       refine aV 1 (.agg (bF o).toArray) rfl (yieldsIf_load_mid (by rfl) 103 _ rfl N (0) rfl (bF o) _ (fun w hS=>hS.1) Tryz.underlying103 rfl oB) hHeld ?_
       try go_frame
       refine ai 2 (.slice (some ⟨fb,fo,none⟩) fs.length uV) rfl hHeld ?_
       try go_frame
       refine ai 3 (.int .i64 i) rfl hHeld ?_
       try go_frame
       refine ai 4 (.pointer (some ⟨fb,fo+i,none⟩)) rfl hHeld ?_
       try go_frame
       refine aV 5 (.int .u8 f) rfl (yA (by intro w hS;have hc:=hS.2;go_simp)) hHeld ?_
       try go_frame
       refine bR 6 rfl (fun K hK=>?_)
       go_simp
       go_at_call 43
       refine Vr.out.mono ?_
       rintro e w4 ⟨rfl,hD4,hF4⟩
       go_wp2_with fail
       refine hK.out _ _ (Fp.out w4 hF4) ?_
       clear hK K hHeld
       intro hHeld
       try go_frame
       refine dY ?_
       clear hHeld
       go_wp2
       go_roundw
       case rel=>exact⟨i+1,by omega,by go_num,AW.out w4 hD4,AX.out w4 hF4⟩
       case measure=>simp [intOf];omega
     · have i2: ¬(i:Int)<(fs.length:Int):=by omega
       have AW:=aa (show DK (wr.alloc (.cells (bF o).toArray 103)) base ⟨p,g,m,gc, .slice (some ⟨go,0,none⟩) D.ops.length eX,rs,M⟩ {D with af:=bP D.af D.ops fs (i+1)} by rw [bP,if_neg hfl2];exact hA)
       have AX:=aa iL
       clear hD hF hA iL gN kQ hel Eg ho
       go_wp2_with (first
         | refine wpList_load_mid rfl 103 _ rfl go (i*257) rfl _ _ rg Tryz.underlying103 rfl oB ?_
         | refine jX rfl rfl Z0 HZ0.out ?_
         | (refine wpList_store_row rfl 103 _ _ rfl wr.heap.size _ rfl rfl 103 _ g1.out K1.out K2.out oo.out ?_;rw [aP]))
       go_roundw
       case rel=>exact⟨i+1,by omega,by go_num,AW.out,AX.out⟩
       case measure=>simp [intOf];omega
   · obtain rfl:i=D.ops.length:=by omega
     clear hlt
     have k3:=aa (uv wr base _ _ hD)
     have HF:=aa hF
     clear hD hF
     go_wp2_with (go_at_call 44;refine k3.out.mono ?_;rintro e w5 ⟨rfl,h5,f5⟩;have c7:=h5.c7;have c8:=h5.c8;have c9:=h5.c9;have fz:=h5.fz;simp only at c7 c8 c9 fz)
     go_ret
     have h6:=h5.put (D':={D with af:=bP D.af D.ops fs D.ops.length,ops:= [],power:=true}) 7 (.bool true) rfl rfl rfl
     have h7:=h6.put (D':={D with af:=bP D.af D.ops fs D.ops.length,ops:= [],power:=true,armed:=0}) 8 (.int .i64 0) rfl rfl rfl
     have h8:=h7.put (D':=D.crashed fs) 9 (.int .i64 (D.ag+1)) rfl rfl rfl
     have hm:=(DP.mem (DP.mk p g m gc (.slice jD D.ops.length eX) rs M) p).2 (Or.inl rfl)
     exact⟨rfl,h8,(((HF.out.trans f5 (Gr.refl _ _)).setCell hm _ _).setCell hm _ _).setCell hm _ _⟩
theorem jC.set{zs:List Int}(h:jC zs)(j:Nat){x:Int}(hx:0<=x/\x<256):jC (zs.set j x):=fun y hy=>by
 rcases List.mem_or_eq_of_mem_set hy with h1| rfl
 · exact h y h1
 · exact hx
theorem Nx.of_same{w w':World}{base:Nat}{P:DP}{D:DS}(h:DK w' base P D)(hok:cC D)(hF:Fr P.fp w w'):Nx base P.fp P.p w D w':=⟨P.fp,⟨P,rfl,rfl,h,hok⟩,hF,Gr.refl _ _⟩
theorem Nx.Ei{w w':World}{base:Nat}{P:DP}{D:DS}{M:DataW Unit}(h:DK w' base {P with ov:= .slice none 0 0,M:=M} D)(hok:cC D)(hF:Fr P.fp w w'):Nx base P.fp P.p w D w':=by
 refine⟨_,⟨{P with ov:= .slice none 0 0,M:=M},rfl,rfl,h,hok⟩,hF,fun k hk=>Or.inl ?_⟩
 rcases(DP.mem _ k).1 hk with e| e| e| e
 · exact(P.mem k).2 (Or.inl e)
 · exact(P.mem k).2 (Or.inr (Or.inl e))
 · exact(P.mem k).2 (Or.inr (Or.inr (Or.inl e)))
 · simp [Value.ownBlock]at e
theorem kA(w:World)(base:Nat)(F:List Nat)(p:Nat)(D:DS)(h:DA w base F p D):
   Calls Tryz.prog 29 #[.pointer (some ⟨p,0,none⟩)] w fun e w'=>e= .returned (.int .i64 D.np)/\w=w':=by
 obtain⟨P,rfl,rfl,hk,hok⟩:=h
 exact AJ w base P D hk D.np hok.np.2.2.1 hok.np.2.1
theorem za(w:World)(base:Nat)(F:List Nat)(p:Nat)(D:DS)(h:DA w base F p D):
   Calls Tryz.prog 56 #[.pointer (some ⟨p,0,none⟩)] w fun e w'=>e= .returned (.bool D.power)/\w=w':=by
 obtain⟨P,rfl,rfl,hk,hok⟩:=h
 exact Ke w base P D hk
theorem zb(w:World)(base:Nat)(F:List Nat)(p:Nat)(D:DS)(h:DA w base F p D):
   Calls Tryz.prog 62 #[.pointer (some ⟨p,0,none⟩)] w fun e w'=>e= .returned (.int .i64 D.ag)/\w=w':=by
 obtain⟨P,rfl,rfl,hk,hok⟩:=h
 exact Kc w base P D hk
theorem Fq(w:World)(base:Nat)(F:List Nat)(p:Nat)(D:DS)(h:DA w base F p D):
   Calls Tryz.prog 23 #[.pointer (some ⟨p,0,none⟩)] w fun e w'=>e= .returned (.agg #[.int .i64 D.reads, .int .i64 D.writes, .int .i64 D.aA, .int .i64 D.ops.length])/\Below w.heap.size w w':=by
 obtain⟨P,rfl,rfl,hk,hok⟩:=h
 exact GU w base P D hk
theorem ze(w:World)(base:Nat)(F:List Nat)(p:Nat)(D:DS)(h:DA w base F p D):
   Calls Tryz.prog 10 #[.pointer (some ⟨p,0,none⟩)] w fun e w'=> ∃v,e= .returned v/\Own w' w.heap.size v D.af/\Below w.heap.size w w':=by
 obtain⟨P,rfl,rfl,hk,hok⟩:=h
 exact Kb w base P D hk (by have:=hok.np;omega)
theorem Pu{D:DS}(h:cC D)(n:Int)(hn:n<=9223372036854775807):cC (D.arm n):=by
 unfold DS.arm
 split
 · exact⟨h.n,h.bts,h.ops,h.reads,h.writes,h.aA,h.ag,by show 0<=max n 0/\max n 0<=_;omega⟩
 · exact h
theorem NC(w:World)(base:Nat)(F:List Nat)(p:Nat)(D:DS)(h:DA w base F p D)(n:Int)(hn:n<=9223372036854775807):
   Calls Tryz.prog 19 #[.pointer (some ⟨p,0,none⟩), .int .i64 n] w fun e w'=>e= .returned (.tuple #[])/\Nx base F p w (D.arm n) w':=by
 obtain⟨P,rfl,rfl,hk,hok⟩:=h
 refine(OU w base P D hk n).mono ?_
 rintro e w' ⟨rfl,h1,h2⟩
 exact⟨rfl,Nx.of_same h1 (Pu hok n hn) h2⟩
theorem Kl(w:World)(base:Nat)(F:List Nat)(p:Nat)(D:DS)(h:DA w base F p D)(cM:D.power=false)(q:Int):
   Calls Tryz.prog 60 #[.pointer (some ⟨p,0,none⟩), .int .i64 q] w fun e w'=>e= .returned (.tuple #[.slice none 0 0, .int .i64 2])/\w=w':=by
 obtain⟨P,rfl,rfl,hk,hok⟩:=h
 exact GY w base P D hk cM q
def DS.synced(D:DS):DS:={D.bn with af:=dL D.af D.ops D.ops.length,ops:= [],aA:=D.aA+1}
theorem mb{D:DS}(hok:cC D)(uy:D.aA<4000000000000000000):cC D.synced:=by
 obtain⟨h3,h4,hn,hop⟩:=hok.np
 have hA:=ij hok
 exact⟨⟨D.np,h3,h4,iK hn hop _ (Nat.le_refl _),fun o ho=>by cases ho⟩,sJ hok.bts hop _ (Nat.le_refl _),by simp [DS.synced],hA.reads,hA.writes,by show 0<=D.aA+1/\D.aA+1<=_;have:=hok.aA;omega,hA.ag,hA.armed⟩
theorem Km(w:World)(base:Nat)(F:List Nat)(p:Nat)(D:DS)(h:DA w base F p D)(cM:D.power=true)(wk:D.armed≠1)(uy:D.aA<4000000000000000000):
   Calls Tryz.prog 59 #[.pointer (some ⟨p,0,none⟩)] w fun e w'=>e= .returned (.int .i64 0)/\Nx base F p w D.synced w':=by
 obtain⟨P,rfl,rfl,hk,hok⟩:=h
 refine(Ha w base P D hk hok cM wk uy).mono ?_
 rintro e w' ⟨rfl,h1,h2⟩
 exact⟨rfl,Nx.Ei h1 (mb hok uy) h2⟩
theorem Hg(w:World)(base:Nat)(F:List Nat)(p:Nat)(D:DS)(h:DA w base F p D)(cM:D.power=true)(wk:D.armed=1):
   Calls Tryz.prog 59 #[.pointer (some ⟨p,0,none⟩)] w fun e w'=>e= .returned (.int .i64 2)/\Nx base F p w D.bn w':=by
 obtain⟨P,rfl,rfl,hk,hok⟩:=h
 refine(Hc w base P D hk hok cM wk).mono ?_
 rintro e w' ⟨rfl,h1,h2⟩
 exact⟨rfl,Nx.of_same h1 (ij hok) h2⟩
theorem Fs{D:DS}(hok:cC D)(je:D.ag<4000000000000000000)(fs:List Int):cC (D.crashed fs):=by
 obtain⟨h3,h4,hn,hop⟩:=hok.np
 exact⟨⟨D.np,h3,h4,fG fs hn hop _ (Nat.le_refl _),fun o ho=>by cases ho⟩,lQ fs hok.bts hop _ (Nat.le_refl _),by simp [DS.crashed],hok.reads,hok.writes,hok.aA,by show 0<=D.ag+1/\D.ag+1<=_;have:=hok.ag;omega,by simp [DS.crashed]⟩
theorem zf(w:World)(base:Nat)(F:List Nat)(p:Nat)(D:DS)(h:DA w base F p D)(je:D.ag<4000000000000000000)(fs:List Int)(mM:jC fs)(sp:Option Addr)(uV:Nat)(hS:Src w sp uV fs)(Hf: ∀a,0<fs.length->sp=some a->a.block∉F):
   Calls Tryz.prog 20 #[.pointer (some ⟨p,0,none⟩), .slice sp fs.length uV] w fun e w'=>e= .returned (.int .i64 D.ops.length)/\Nx base F p w (D.crashed fs) w':=by
 obtain⟨P,rfl,rfl,hk,hok⟩:=h
 refine(Kk w base P D hk hok je fs mM sp uV hS Hf).mono ?_
 rintro e w' ⟨rfl,h1,h2⟩
 exact⟨rfl,Nx.Ei h1 (Fs hok je fs) h2⟩
theorem AY{w:World}{base:Nat}{v:Value}{zs:List Int}(h:Own w base v zs)(hz:0<zs.length): ∃g cap rest,v= .slice (some ⟨g,0,none⟩) zs.length cap/\base<=g/\w.heap[g]? =some (.cells (ints .u8 zs++rest).toArray 5 (0,0))/\zs.length<=cap/\cap<=maxLen/\v.ownBlock=some g:=by
 rcases h.2 with⟨_,h0⟩| ⟨g,cap,cur,rfl,hg,hh,hc,hm,hs,ht⟩
 · omega
 · refine⟨g,cap,cur.toList.drop zs.length,rfl,hg,?_,hc,hm,rfl⟩
   rw [hh]
   congr 2
   rw [<-ht,Nat.mul_one,List.take_append_drop]
theorem sL{z y:List Int}(hl:z.length=y.length)(h: ∀j,j<z.length->z.getD j 0=y.getD j 0):z=y:=by
 apply List.ext_getElem hl
 intro i h1 h2
 have:=h i h1
 rwa [List.getD_eq_getElem?_getD,List.getD_eq_getElem?_getD,List.getElem?_eq_getElem h1,List.getElem?_eq_getElem h2]at this
theorem Kn(l:List Int)(a b k:Nat)(h:a<=k)(h2:k<a+b):((l.drop a).take b).getD (k-a) 0=l.getD k 0:=by
 rw [List.getD_eq_getElem?_getD,List.getElem?_take,if_pos (by omega),List.getElem?_drop,show a+(k-a)=k by omega,<-List.getD_eq_getElem?_getD]
theorem mX{af:List Int}{n:Nat}{o:OW}(f:Nat)(h:af.length=256*n)(ho:gB n o): ∀j,j<=4-> ∀k,(dw af o f j).getD k 0=if o.page*256<=k/\k<o.page*256+j*64/\f.testBit ((k-o.page*256)/64)=true then o.data.getD (k-o.page*256) 0 else af.getD k 0
 | 0,_,k=>by rw [if_neg (by omega)];rfl
 | j+1,hj,k=>by
   have ih:=mX f h ho j (by omega) k
   have hl:=kR f h ho j (by omega)
   obtain⟨h1,h2,h3⟩:=ho
   unfold dw
   split
   · rename_i hb
     have el:((o.data.drop (j*64)).take 64).length=64:=by simp;omega
     rw [yZ _ _ _ (by rw [el,hl];omega),el]
     by_cases c:o.page*256+j*64<=k/\k<o.page*256+j*64+64
     · have hs:(k-o.page*256)/64=j:=by omega
       rw [if_pos c,if_pos ⟨by omega,by omega,by rw [hs];exact hb⟩,show k-(o.page*256+j*64)=(k-o.page*256)-j*64 by omega,Kn _ _ _ _ (by omega) (by omega)]
     · rw [if_neg c,ih]
       by_cases d:o.page*256<=k/\k<o.page*256+j*64/\f.testBit ((k-o.page*256)/64)=true
       · rw [if_pos d,if_pos ⟨d.1,by omega,d.2.2⟩]
       · rw [if_neg d,if_neg (fun e=>d ⟨e.1,by omega,e.2.2⟩)]
   · rename_i hb
     rw [ih]
     by_cases d:o.page*256<=k/\k<o.page*256+j*64/\f.testBit ((k-o.page*256)/64)=true
     · rw [if_pos d,if_pos ⟨d.1,by omega,d.2.2⟩]
     · rw [if_neg d,if_neg]
       rintro⟨e1,e2,e3⟩
       by_cases c:k<o.page*256+j*64
       · exact d ⟨e1,c,e3⟩
       · rw [show(k-o.page*256)/64=j by omega]at e3
         exact hb e3
theorem qG{af:List Int}{n:Nat}{o:OW}(h:af.length=256*n)(ho:gB n o)(k:Nat):(lay1 af o).getD k 0=if o.page*256<=k/\k<o.page*256+256 then o.data.getD (k-o.page*256) 0 else af.getD k 0:=by
 obtain⟨h1,h2,h3⟩:=ho
 unfold lay1
 rw [yZ _ _ _ (by rw [h2,h];omega),h2]
theorem bit15: ∀s,s<4->Nat.testBit 15 s=true:=by decide
theorem torn15{af:List Int}{n:Nat}{o:OW}(h:af.length=256*n)(ho:gB n o):dw af o 15 4=lay1 af o:=by
 apply sL
 · rw [kR 15 h ho 4 (Nat.le_refl _),uT h ho]
 · intro k hk
   rw [mX 15 h ho 4 (Nat.le_refl _),qG h ho]
   by_cases c:o.page*256<=k/\k<o.page*256+256
   · rw [if_pos ⟨c.1,c.2,bit15 _ (by omega)⟩,if_pos c]
   · rw [if_neg (fun e=>c ⟨e.1,e.2.1⟩),if_neg c]
theorem crash15{af:List Int}{ops:List OW}{n:Nat}(h:af.length=256*n)(ho: ∀o∈ops,gB n o)(m:Nat)(hm:ops.length<=m): ∀i,i<=ops.length->bP af ops (List.replicate m 15) i=dL af ops i
 | 0,_=>rfl
 | i+1,hi=>by
   have ih:=crash15 h ho m hm i (by omega)
   have hf:jd (List.replicate m 15) i=15:=by unfold jd;rw [List.getD_eq_getElem?_getD,List.getElem?_replicate,if_pos (by omega)];rfl
   rw [bP,if_pos (by rw [List.length_replicate];omega),hf,ih,kP _ _ _ (by omega),torn15 (iK h ho i (by omega)) (ho _ (fj ops i (by omega)))]
theorem Hh{af:List Int}{n:Nat}{ops:List OW}(h:af.length=256*n)(ho: ∀o∈ops,gB n o)(x:Nat)(hx: ∀o∈ops,o.page≠x/256): ∀i,i<=ops.length->(dL af ops i).getD x 0=af.getD x 0
 | 0,_=>rfl
 | i+1,hi=>by
   have hm:=fj ops i (by omega)
   have:=hx _ hm
   rw [kP _ _ _ (by omega),qG (iK h ho i (by omega)) (ho _ hm),if_neg (by omega),Hh h ho x hx i (by omega)]
theorem uz{af:List Int}{n:Nat}{ops:List OW}(fs:List Int)(h:af.length=256*n)(ho: ∀o∈ops,gB n o)(x:Nat)(hx: ∀o∈ops,o.page≠x/256): ∀i,i<=ops.length->(bP af ops fs i).getD x 0=af.getD x 0
 | 0,_=>rfl
 | i+1,hi=>by
   have hm:=fj ops i (by omega)
   have:=hx _ hm
   have ih:=uz fs h ho x hx i (by omega)
   rw [bP]
   split
   · rw [mX _ (fG fs h ho i (by omega)) (ho _ hm) 4 (Nat.le_refl _),if_neg (fun e=>by omega),ih]
   · exact ih
theorem Ko(w:World)(base:Nat)(P:DP)(D:DS)(h:DK w base P D)(ha:0<=D.ag/\D.ag<4000000000000000000):
   Calls Tryz.prog 30 #[.pointer (some ⟨P.p,0,none⟩)] w fun e w'=>e= .returned (.int .i64 (D.ag+1))/\DK w' base P {D with ag:=D.ag+1}/\Fr P.fp w w':=by
 have c:=h.c9
 have f:=h.fz 9
 have hq:=h.put (D':={D with ag:=D.ag+1}) 9 (.int .i64 (D.ag+1)) rfl rfl rfl
 have q:=hq.c9
 have HQ:=aa hq
 have hp:=h.hp
 clear hq
 simp only at q
 generalize D.ag=a at*
 go_enter Tryz.func30,Tryz.ntmps30
 go_wp2
 go_ret
 exact⟨rfl,HQ.out,(Fr.refl _ w).setCell hp _ _⟩
def Good(s o:aD)(L0 L1:List Int):Prop:=aJ s=true/\aJ o=true/\vS s o/\ ∃Y Z:List Int,Y.length=192/\Z.length=192/\aS Y/\aS Z/\((s.ge%2=0/\L0=dv s++Y/\L1=dv o++Z)\/(s.ge%2=1/\L0=dv o++Y/\L1=dv s++Z))
theorem Good.choose{s o:aD}{L0 L1:List Int}(h:Good s o L0 L1):aM L0 L1=(s,0)/\aS L0/\aS L1/\L0.length=256/\L1.length=256:=by
 obtain⟨hv,ho,hf,Y,Z,hY,hZ,y8,z8,h| h⟩:=h
 · obtain⟨hp,rfl,rfl⟩:=h
   have hb:=(dg s).1 hv
   refine⟨Fg o s Y Z hY hZ ho hv hf (by rw [Int.tmod_eq_emod_of_nonneg (by omega)];exact hp),fy (lW s hv) y8,fy (lW o ho) z8,by rw [List.length_append,eJ,hY],by rw [List.length_append,eJ,hZ]⟩
 · obtain⟨hp,rfl,rfl⟩:=h
   have hb:=(dg o).1 ho
   have h1:=hf.1
   refine⟨Dh o s Y Z hY hZ ho hv hf (by rw [Int.tmod_eq_emod_of_nonneg (by omega)];omega),fy (lW o ho) y8,fy (lW s hv) z8,by rw [List.length_append,eJ,hY],by rw [List.length_append,eJ,hZ]⟩
end Go.Proofs.YtpdakmhnnkaafaaGreat

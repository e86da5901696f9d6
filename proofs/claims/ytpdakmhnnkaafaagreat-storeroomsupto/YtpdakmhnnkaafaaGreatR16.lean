import Derived.Test.YtpdakmhnnkaafaaGreatR15
import Derived.Test.YtpdakmhnnkaafaaGreatR09
import Derived.Maps.RangeWalk
import Derived.Test.YtpdakmhnnkaafaaGreatR04
import Derived.RangeFuncNested
import Derived.RangeFuncBound
import Derived.RangeFuncCalls
import Derived.RangeFuncLeaves
import Derived.RangeFuncFrom
import Derived.ControlIn
import Derived.OwnWalkIn
import Derived.OrdersIn
import Derived.TacticsInMore
import Derived.LoopNIn
import Derived.LoopIn
import Derived.WalkKit
import Derived.Shelf.Abstract
import Derived.Shelf.RegionOpen
namespace Go.Proofs.YtpdakmhnnkaafaaGreat
set_option maxRecDepth 100000
set_option maxHeartbeats 40000000
set_option linter.unusedVariables false
set_option linter.unusedSimpArgs false
open Go.RowKit
open Go.Proofs.YtpdakmhnnkaafaaGreat.Ca (Ct ct0 av bV AS)
attribute [local go_sem ↓] Go.wp_at_zero Go.wp_at_succ
theorem IV{D:DS}(h:D.power=false):D.bn.power=false:=by
 unfold DS.bn
 split
 · exact h
 · split
   · rfl
   · exact h
theorem Qo{D:DS}{o:OW}(h:D.power=false):(D.wr o).power=false:=IV (D:=({D.dK o with writes:=D.writes+1}:DS)) h
theorem BP: ∀(l:List (Int×List Int)) (D:DS) (m:Nat),D.power=false->(bW D m l).power=false
 | [],D,m,h=>h
 | v::r,D,m,h=>BP r _ _ (Qo h)
theorem oO: ∀(l:List (Int×List Int)) (D:DS) (m:Nat),1<=D.armed->D.armed<=l.length->(bW D m l).power=false
 | [],D,m,h1,h2=>by simp at h2;omega
 | v::r,D,m,h1,h2=>by
   obtain⟨a1,a2,a3⟩:=ny D ⟨m,cy v.1 m v.2⟩ (by omega)
   by_cases e:D.armed=1
   · exact BP r _ _ (a3 e)
   · rw [if_neg (by omega)]at a1
     simp only [List.length_cons]at h2
     exact oO r _ _ (by rw [a1];omega) (by rw [a1];push_cast at h2⊢;omega)
theorem ve: ∀(l:List (Int×List Int)) (D:DS) (m:Nat),(l.length:Int)<D.armed→
   (bW D m l).armed=D.armed-l.length/\(bW D m l).power=D.power/\(bW D m l).ag=D.ag/\(bW D m l).ops.length=D.ops.length+l.length/\(bW D m l).writes=D.writes+l.length/\(bW D m l).aA=D.aA
 | [],D,m,h=>by simp [bW]
 | v::r,D,m,h=>by
   simp only [List.length_cons]at h
   obtain⟨a1,a2,a3⟩:=ny D ⟨m,cy v.1 m v.2⟩ (by push_cast at h;omega)
   obtain⟨e1,e2,e3,e4,e5,e6⟩:=kU D ⟨m,cy v.1 m v.2⟩
   rw [if_neg (by push_cast at h;omega)]at a1
   obtain⟨q1,q2,q3,q4,q5,q6⟩:=ve r (D.wr ⟨m,cy v.1 m v.2⟩) (m+1) (by rw [a1];push_cast at h;omega)
   simp only [bW,List.length_cons]
   refine⟨by rw [q1,a1];push_cast;omega,by rw [q2,a2 (by push_cast at h;omega)],by rw [q3,e3],by rw [q4,e2,List.length_append,List.length_singleton];omega,by rw [q5,e5];push_cast;omega,by rw [q6,e6]⟩
theorem gP{D:DS}{ep:Int}(h:ak D ep=0):D.power=true:=by
 unfold ak at h
 by_cases e:D.ag≠ep
 · rw [if_pos e]at h;cases h
 · rw [if_neg e]at h
   by_cases p:D.power=true
   · exact p
   · rw [if_neg p]at h;cases h
structure VI (R:DS×Int) (D:DS) (s2:aD) (k:Nat):Prop where
 ok:cC R.1
 np:R.1.np=D.np
 ag:R.1.ag=D.ag
 reads:R.1.reads=D.reads
 writes:R.1.writes<=D.writes+1
 aA:R.1.aA<=D.aA+2
 ops:R.1.ops.length<=D.ops.length+1
 arm:D.armed=0->R.2=0/\R.1.armed=0
 two:R.2=0\/R.2=2
 good:R.2=0->R.1.power=true/\R.1.ops= []/\bO R.1.af k=dI s2/\ ∀q,q<D.np->q≠k->bO R.1.af q=D.aj q
 bad:R.2=2->R.1.power=false/\((R.1.af=D.af/\R.1.ops=D.ops)\/(R.1.ops= [⟨k,dI s2⟩]/\ ∀q,q<D.np->bO R.1.af q=D.aj q))
theorem yt{D:DS}(hok:cC D)(hp:D.power=true)(iU:mN D 3)(s2:aD)(hv:aJ s2=true)(k:Nat)(hk:s2.ge%2=(k:Int)):VI (aX D [.sync, .lay s2 0 0, .sync]) D s2 k:=by
 obtain⟨h3,h4,hn,_⟩:=hok.np
 have hk2:(s2.ge%2).toNat=k:=by omega
 have hk3:k<2:=by omega
 have ha:=hok.armed.1
 have uy: ∀X:DS,X.armed≠1->St.go .sync X=(X.synced,0):=fun X hX=>by show sy X=_;unfold sy;rw [if_neg hX]
 have hsz: ∀X:DS,X.armed=1->St.go .sync X=(X.bn,2):=fun X hX=>by show sy X=_;unfold sy;rw [if_pos hX]
 by_cases k1:D.armed=1
 · have hr:aX D [.sync, .lay s2 0 0, .sync]=(D.bn,2):=by rw [aX,hsz D k1];rfl
   obtain⟨c1,c2,c3,c4,c5,c6⟩:=ez D
   rw [hr]
   exact⟨ij hok,jf (by rw [c1]),c3,c4,by show D.bn.writes<=_;omega,by show D.bn.aA<=_;omega,by show D.bn.ops.length<=_;rw [c2];omega,fun q=>by omega,Or.inr rfl,fun q=>absurd (show(2:Int)=0 from q) (by decide),fun _=>⟨(mf D ha).2.2 k1,Or.inl ⟨c1,c2⟩⟩⟩
 obtain⟨D1,hD1⟩: ∃D1,D1=D.synced:=⟨_,rfl⟩
 have ok1:=mb hok (by have:=iU.aA;omega)
 have np1:=tU hok
 have p1: ∀q,q<D.np->bO D1.af q=D.aj q:=fun q hq=>by rw [hD1];exact zg hok q hq
 rw [<-hD1]at ok1 np1
 have s1:D1.ops= []/\D1.ag=D.ag/\D1.reads=D.reads/\D1.writes=D.writes/\D1.aA=D.aA+1:=by
   obtain⟨c1,c2,c3,c4,c5,c6⟩:=ez D
   rw [hD1];exact⟨rfl,c3,c4,c5,rfl⟩
 have a1:=lJ D ha k1
 rw [<-hD1]at a1
 have r0:aX D [.sync, .lay s2 0 0, .sync]=aX D1 [.lay s2 0 0, .sync]:=by rw [aX,uy D k1,if_pos rfl,hD1]
 obtain⟨D2,hD2⟩: ∃D2,D2=D1.wr ⟨k,dI s2⟩:=⟨_,rfl⟩
 have e2:=kU D1 ⟨k,dI s2⟩
 have ok2:=vZ ok1 (o:=⟨k,dI s2⟩) ⟨by show k<D1.np;omega,nw _,oD hv⟩ (by rw [s1.1];decide) (by rw [s1.2.2.2.1];have:=iU.writes;omega)
 have n1:0<=D1.armed:=ok1.armed.1
 have a2:=ny D1 ⟨k,dI s2⟩ n1
 rw [<-hD2]at e2 ok2 a2
 rw [s1.1,List.nil_append]at e2
 have np2:D2.np=D.np:=(jf (by rw [e2.1])).trans np1
 have st2:St.go (.lay s2 0 0) D1=(D2,D1.eW):=by rw [hD2];show(D1.wr ⟨(s2.ge%2).toNat,dI s2⟩,D1.eW)=_;rw [hk2]
 have p2: ∀q,q<D.np->bO D2.af q=D.aj q:=fun q hq=>by rw [e2.1];exact p1 q hq
 by_cases k2:D1.armed=1
 · have hr:aX D [.sync, .lay s2 0 0, .sync]=(D2,2):=by rw [r0,aX,st2,wL k2];rfl
   rw [hr]
   exact⟨ok2,np2,e2.2.2.1.trans s1.2.1,e2.2.2.2.1.trans s1.2.2.1,by show D2.writes<=_;omega,by show D2.aA<=_;omega,by show D2.ops.length<=_;rw [e2.2.1];simp,fun q=>by rw [a1.1,if_pos q]at k2;omega,Or.inr rfl,fun q=>absurd (show(2:Int)=0 from q) (by decide),fun _=>⟨a2.2.2 k2,Or.inr ⟨e2.2.1,p2⟩⟩⟩
 have r1:aX D [.sync, .lay s2 0 0, .sync]=aX D2 [.sync]:=by rw [r0,aX,st2,wK k2,if_pos rfl]
 have n2:0<=D2.armed:=ok2.armed.1
 by_cases k3:D2.armed=1
 · have hr:aX D [.sync, .lay s2 0 0, .sync]=(D2.bn,2):=by rw [r1,aX,hsz D2 k3];rfl
   obtain⟨c1,c2,c3,c4,c5,c6⟩:=ez D2
   rw [hr]
   exact⟨ij ok2,(jf (by rw [c1])).trans np2,c3.trans (e2.2.2.1.trans s1.2.1),c4.trans (e2.2.2.2.1.trans s1.2.2.1),by show D2.bn.writes<=_;omega,by show D2.bn.aA<=_;omega,by show D2.bn.ops.length<=_;rw [c2,e2.2.1];simp,fun q=>by rw [a2.1,a1.1,if_pos q,if_pos rfl]at k3;omega,Or.inr rfl,fun q=>absurd (show(2:Int)=0 from q) (by decide),fun _=>⟨(mf D2 n2).2.2 k3,Or.inr ⟨c2.trans e2.2.1,fun q hq=>by show bO D2.bn.af q=_;rw [c1];exact p2 q hq⟩⟩⟩
 obtain⟨D3,hD3⟩: ∃D3,D3=D2.synced:=⟨_,rfl⟩
 have ok3:=mb ok2 (by rw [e2.2.2.2.2.2,s1.2.2.2.2];have:=iU.aA;omega)
 have np3:=(tU ok2).trans np2
 have p3:=uW ok2 k _ e2.2.1 (by omega)
 have a3:=lJ D2 n2 k3
 rw [<-hD3]at ok3 np3 p3 a3
 have hr:aX D [.sync, .lay s2 0 0, .sync]=(D3,0):=by rw [r1,aX,uy D2 k3,if_pos rfl,hD3];rfl
 obtain⟨c1,c2,c3,c4,c5,c6⟩:=ez D2
 rw [hr]
 refine⟨ok3,np3,by rw [hD3];exact c3.trans (e2.2.2.1.trans s1.2.1),by rw [hD3];exact c4.trans (e2.2.2.2.1.trans s1.2.2.1),?_,?_,?_,fun q=>⟨rfl,?_⟩,Or.inl rfl,fun _=>⟨?_,by rw [hD3];rfl,p3.1,fun q hq hne=>?_⟩,fun q=>absurd (show(0:Int)=2 from q) (by decide)⟩
 · show D3.writes<=_;rw [hD3];show D2.bn.writes<=_;omega
 · show D3.aA<=_;rw [hD3];show D2.aA+1<=_;omega
 · show D3.ops.length<=_;rw [hD3];show([]:List OW).length<=_;simp
 · show D3.armed=0;rw [a3.1,a2.1,a1.1,if_pos q];rfl
 · show D3.power=true;rw [a3.2,a2.2.1 k2,a1.2,hp]
 · show bO D3.af q=_;rw [p3.2 q (by omega) hne];exact p2 q hq
theorem zw: ∀(l:List (Int×List Int)) (D:DS) (m:Nat),
   (∀q,q<m->(bW D m l).aj q=D.aj q)/\(∀j,j<l.length->(bW D m l).aj (m+j)=cy (l.getD j (0,[])).1 ((m+j:Nat):Int) (l.getD j (0,[])).2)
 | [],D,m=>⟨fun q _=>rfl,fun j hj=>by simp at hj⟩
 | v::r,D,m=>by
   obtain⟨h1,h2⟩:=zw r (D.wr ⟨m,cy v.1 m v.2⟩) (m+1)
   have e:=kU D ⟨m,cy v.1 m v.2⟩
   have rd: ∀q,(D.wr ⟨m,cy v.1 m v.2⟩).aj q=if m=q then cy v.1 m v.2 else D.aj q:=fun q=>uA e.1 e.2.1 q
   refine⟨fun q hq=>?_,fun j hj=>?_⟩
   · show(bW (D.wr _) (m+1) r).aj q=_
     rw [h1 q (by omega),rd q,if_neg (by omega)]
   · show(bW (D.wr _) (m+1) r).aj (m+j)=_
     cases j with
     | zero=>exact(h1 m (by omega)).trans ((rd m).trans (if_pos rfl))
     | succ j=>
       have:=h2 j (by simpa using hj)
       rw [show m+1+j=m+(j+1) by omega]at this
       rw [this];rfl
theorem yu: ∀(l:List (Int×List Int)) (D:DS) (m:Nat),cC D->(∀v∈l,(1<=v.1/\v.1<=3)/\v.2.length<=246/\aS v.2)->m+l.length<=D.np->D.ops.length+l.length<400000000000->D.writes+l.length<4000000000000000000->cC (bW D m l)/\(bW D m l).np=D.np
 | [],D,m,h,_,_,_,_=>⟨h,rfl⟩
 | v::r,D,m,h,hv,hm,ho,hw=>by
   simp only [List.length_cons]at hm ho hw
   obtain⟨k1,k2,k3⟩:=hv v (by simp)
   have e:=kU D ⟨m,cy v.1 m v.2⟩
   have ok:=vZ h (o:=⟨m,cy v.1 m v.2⟩) ⟨by show m<D.np;omega,sg _ _ _ k2,vJ _ _ _ ⟨by omega,by omega⟩ k2 k3⟩ (by omega) (by push_cast at hw;omega)
   have np:(D.wr ⟨m,cy v.1 m v.2⟩).np=D.np:=jf (by rw [e.1])
   obtain⟨q1,q2⟩:=yu r (D.wr ⟨m,cy v.1 m v.2⟩) (m+1) ok (fun x hx=>hv x (by simp [hx])) (by rw [np];omega) (by rw [e.2.1,List.length_append,List.length_singleton];omega) (by rw [e.2.2.2.2.1];push_cast at hw⊢;omega)
   exact⟨q1,q2.trans np⟩
structure VJ (S:au) (m:Nat) (s2:aD) (D':DS):Prop where
 ok:cC D'
 np:D'.np=S.D.np
 ag:D'.ag=S.D.ag
 reads:D'.reads=S.D.reads
 pw:D'.power=true
 ops:D'.ops= []
 old: ∀q,2<=q->q<m->D'.aj q=S.D.aj q
 new: ∀j,j<S.vs.length->D'.aj (m+j)=cy (S.vs.getD j (0,[])).1 ((m+j:Nat):Int) (S.vs.getD j (0,[])).2
 slot:bO D'.af (s2.ge%2).toNat=dI s2
 other: ∀q,q<2->q≠(s2.ge%2).toNat->bO D'.af q=S.D.aj q
theorem mq: ∀(l:List (Int×List Int)) (D:DS) (m:Nat),(bW D m l).ag=D.ag/\(bW D m l).reads=D.reads/\(bW D m l).aA=D.aA/\(bW D m l).writes=D.writes+l.length/\(bW D m l).ops.length=D.ops.length+l.length
 | [],D,m=>by simp [bW]
 | v::r,D,m=>by
   obtain⟨h1,h2,h3,h4,h5⟩:=mq r (D.wr ⟨m,cy v.1 m v.2⟩) (m+1)
   obtain⟨e1,e2,e3,e4,e5,e6⟩:=kU D ⟨m,cy v.1 m v.2⟩
   simp only [bW,List.length_cons]
   exact⟨h1.trans e3,h2.trans e4,h3.trans e6,by rw [h4,e5];push_cast;omega,by rw [h5,e2,List.length_append,List.length_singleton];omega⟩
theorem IW{S:au}{m:Nat}{hd:Int}{D':DS}{s':aD}(h:xj S m hd 0 D' s')(hok:cC S.D)(hv: ∀v∈S.vs,(1<=v.1/\v.1<=3)/\v.2.length<=246/\aS v.2)(hm:2<=m)(gI:m+S.vs.length<=S.D.np)(ho:S.D.ops.length+S.vs.length<300000000000)(hw:S.D.writes+S.vs.length<3000000000000000000)(hs:S.D.aA<3000000000000000000)(hge:0<=S.s.ge)(hval:aJ ⟨S.s.wd,S.s.ge+1,(m+S.vs.length:Nat),hd,S.s.pg⟩=true):
   s'=⟨S.s.wd,S.s.ge+1,(m+S.vs.length:Nat),hd,S.s.pg⟩/\VJ S m s' D':=by
 rcases h with⟨i,hi,h1,h2,h3,h4,h5⟩| ⟨h1,h2,h3,h4⟩
 · cases h3
 · rw [if_pos rfl]at h4
   obtain⟨q1,q2⟩:=yu S.vs S.D m hok hv gI (by omega) (by omega)
   obtain⟨a1,a2,a3,a4,a5⟩:=mq S.vs S.D m
   obtain⟨r1,r2⟩:=zw S.vs S.D m
   have hP:=yt q1 (gP h1) ⟨gP h1,by rw [a5];omega,by rw [a4];omega,by rw [a3];omega⟩ ⟨S.s.wd,S.s.ge+1,(m+S.vs.length:Nat),hd,S.s.pg⟩ hval ((S.s.ge+1)%2).toNat (by show(S.s.ge+1)%2=_;omega)
   rw [<-h4]at hP h3 h2
   obtain⟨g1,g2,g3,g4⟩:=hP.good h2.symm
   have hk:((S.s.ge+1)%2).toNat<2:=by omega
   have hge2:s'.ge=S.s.ge+1:=by rw [h4]
   rw [<-h3]at g1 g2 g3 g4
   refine⟨h4,⟨by rw [h3];exact hP.ok,by rw [h3];exact hP.np.trans q2,by rw [h3];exact hP.ag.trans a1,by rw [h3];exact hP.reads.trans a2,g1,g2,fun q h2 hq=>?_,fun j hj=>?_,by rw [hge2];exact g3,fun q hq hn=>?_⟩⟩
   · rw [iT g2,g4 q (by rw [q2];omega) (by omega),r1 q hq]
   · rw [iT g2,g4 (m+j) (by rw [q2];omega) (by omega),r2 j hj]
   · rw [hge2]at hn
     rw [g4 q (by rw [q2];omega) hn,r1 q (by omega)]
theorem SK.put{w2 w3:World}{base:Nat}{S:au}(h:SK w2 base S){F':List Nat}{N':Nat}{a':AS Int Ct}(hC:Ca.CA w3 base F' S.pc N' a')(hF:Fr S.FC w2 w3)(hG:Gr w2 S.FC F')(c:Ct)(v:Int×List Int)(pg:Int)(IU:jQ w2 base S.lb c v)(h2:2<=pg/\pg<S.s.ma)(gH: ∀x∈a'.clean,x=(pg,c)\/(x∈S.a.clean/\x.1≠pg))(hh:a'.held=S.a.held):
   SK w3 base {S with FC:=F',N:=N',a:=a',kv:=fun k=>if k=pg then v else S.kv k}:=by
 have hold2: ∀k,(k=S.g\/k=S.st\/k∈S.F\/k∈S.FC\/S.sv.ownBlock=some k\/k∈S.lb)->base<=k/\k<w2.heap.size:=fun k q=>h.dG q
 have hl: ∀k∈S.lb,w3.heap[k]? =w2.heap[k]? :=fun k q=>hF.block k (hold2 k (by simp [q])).2 (fun z=>h.a3 k z q)
 refine⟨h.da.of_heap fun k q=>hF.block k (hold2 k (by simp [q])).2 (h.a1 k q),(hF.block S.g h.BG h.kE.2.1).trans h.fk,hC,(hF.block S.st h.iW h.ct.2.2.1).trans h.sk,cZ h.so fun k e=>hF.block k (hold2 k (by simp [e])).2 (h.dE e).2.2.2.1,fun k q=>⟨(h.lb k q).1,?_⟩,h.cl,fun j hj=>(h.cv j hj).to (fun k q=>q) hl,fun x hx=>?_,hh.trans h.hd,fun k hk q=>?_,h.a2,fun k hk q=>?_,h.bg,h.bs,h.bp⟩
 · obtain⟨cs,hc⟩:=(h.lb k q).2
   exact⟨cs,(hl k q).trans hc⟩
 · rcases gH x hx with e| e
   · subst e
     exact⟨v,IU.to (fun k q=>q) hl,h2.1,h2.2,if_pos rfl⟩
   · obtain⟨v,h1,h2,h3,h4⟩:=h.ck x e.1
     exact⟨v,h1.to (fun k q=>q) hl,h2,h3,(if_neg e.2).trans h4⟩
 · rcases hG k q with z| z
   · exact h.a1 k hk z
   · have:=(hold2 k (by simp [hk])).2;omega
 · rcases hG k hk with z| z
   · exact h.a3 k z q
   · have:=(hold2 k (by simp [q])).2;omega
theorem SK.more{w:World}{base:Nat}{S:au}(h:SK w base S)(Qp:List Nat)(Qq: ∀k∈S.lb,k∈Qp)(hn: ∀k∈Qp,k∈S.lb\/(base<=k/\(∃cs,w.heap[k]? =some (.cells cs 5 (0,0)))/\k∉S.F/\k∉S.FC)):
   SK w base {S with lb:=Qp}:=by
 refine⟨h.da,h.fk,h.ca,h.sk,h.so,fun k q=>?_,h.cl,fun j hj=>(h.cv j hj).to Qq (fun _ _=>rfl),fun x hx=>?_,h.hd,h.a1,fun k hk q=>?_,fun k hk q=>?_,h.bg,h.bs,h.bp⟩
 · rcases hn k q with z| z
   · exact h.lb k z
   · exact⟨z.1,z.2.1⟩
 · obtain⟨v,h1,h2⟩:=h.ck x hx
   exact⟨v,h1.to Qq (fun _ _=>rfl),h2⟩
 · rcases hn k q with z| z
   · exact h.a2 k hk z
   · exact z.2.2.1 hk
 · rcases hn k q with z| z
   · exact h.a3 k hk z
   · exact z.2.2.2 hk
theorem get_none{a:AS Int Ct}{k:Int}(h:a.val k=none):(a.get k).val k=none/\(a.get k).clean=a.clean/\(a.get k).held=a.held:=by
 unfold Ca.AS.val at h
 have h1:Ca.dr a.held k=none:=by cases q:Ca.dr a.held k with
   | none=>rfl
   | some x=>rw [q]at h;cases h
 have h2:Ca.dr a.clean k=none:=by rw [h1]at h;simpa using h
 unfold Ca.AS.get
 rw [h1,h2]
 exact⟨by unfold Ca.AS.val;rw [h1,h2];rfl,rfl,rfl⟩
theorem zx{a:AS Int Ct}{k:Int}{c:Ct}(h:a.val k=none):(∀x∈(a.put k c).clean,x=(k,c)\/(x∈a.clean/\x.1≠k))/\(a.put k c).held=a.held:=by
 unfold Ca.AS.val at h
 have h1:Ca.dr a.held k=none:=by cases q:Ca.dr a.held k with
   | none=>rfl
   | some x=>rw [q]at h;cases h
 unfold Ca.AS.put
 rw [h1]
 refine⟨fun x hx=>?_,rfl⟩
 have hx2:=List.mem_of_mem_take hx
 rcases List.mem_cons.1 hx2 with e| e
 · exact Or.inl e
 · have:=List.mem_filter.1 e
   exact Or.inr ⟨this.1,by simpa using this.2⟩
theorem SK.fetched{w3 w5:World}{base:Nat}{S:au}(h:SK w3 base S)(m:Nat)(hm:S.s.ma=m)(eY:S.nx=m){D':DS}{o4:Array Value}(hD:DA w5 base S.F S.p D')(hf:FK w5 S.g S.p S.s S.nx S.ep)(fr:Fr S.F (w3.alloc (.cells o4 93)) w5)(c:Ct)(kd:Int)(zs:List Int)(hO:Own w5 (w3.alloc (.cells o4 93)).heap.size (.slice c.sp c.n c.c) zs)(hc:c.kd=kd)(uH:1<=kd/\kd<=3)(hz:zs.length<=246)(h8:aS zs):
   SK (w5.setRow w3.heap.size (av c).toArray) base {S with D:=D',nx:=m,lb:=(Value.slice c.sp c.n c.c).ownBlock.toList++S.lb}/\jQ (w5.setRow w3.heap.size (av c).toArray) base ((Value.slice c.sp c.n c.c).ownBlock.toList++S.lb) c (kd,zs)/\(w5.setRow w3.heap.size (av c).toArray).heap[w3.heap.size]? =some (.cells (av c).toArray 93 (0,0))/\Below base w3 (w5.setRow w3.heap.size (av c).toArray):=by
 have hb:=h.base
 have hsz:(w3.alloc (.cells o4 93)).heap.size=w3.heap.size+1:=by simp
 have h4:=h.below (aq w3 (.cells o4 93))
 have h5:SK w5 base {S with F:=S.F,D:=D',nx:=m}:=h4.BK hD m hm (by rw [hm,<-eY];exact hf) (fr.wide S.g) (Gr.refl _ _)
 have mM:w3.heap.size∉S.F:=fun q=>by have:=(h.dG (k:=w3.heap.size) (by simp [q])).2;omega
 have r5:w5.heap[w3.heap.size]? =some (.cells o4 93 (0,0)):=fr.keep (aF w3 _) mM
 have tj: ∀k,(Value.slice c.sp c.n c.c).ownBlock=some k->w3.heap.size+1<=k/\ ∃cs,w5.heap[k]? =some (.cells cs 5 (0,0)):=fun k e=>by
   obtain⟨q1,cur,q2⟩:=aH hO k e
   rw [hsz]at q1
   exact⟨q1,cur,q2⟩
 have hold2: ∀k,(k=S.g\/k=S.st\/k∈S.F\/k∈S.FC\/S.sv.ownBlock=some k\/k∈S.lb)->base<=k/\k<w3.heap.size:=fun k q=>h.dG q
 have hm6:=h5.more ((Value.slice c.sp c.n c.c).ownBlock.toList++S.lb) (fun k q=>List.mem_append_right _ q) (fun k q=>by
   rcases List.mem_append.1 q with z| z
   · obtain⟨q1,q2⟩:=tj k (by simpa using z)
     exact Or.inr ⟨by omega,q2,fun y=>by have:=(hold2 k (by simp [show k∈S.F from y])).2;omega,fun y=>by have:=(hold2 k (by simp [show k∈S.FC from y])).2;omega⟩
   · exact Or.inl z)
 have hne: ∀k,k≠w3.heap.size->(w5.setRow w3.heap.size (av c).toArray).heap[k]? =w5.heap[k]? :=fun k q=>setRow_other _ _ _ _ q
 refine⟨hm6.of_heap (fun k hk=>hne k ?_) (by simp),⟨hc,(hO.base (by rw [hsz];omega)).of_heap fun k e=>hne k (by have:=(tj k e).1;omega),fun k e=>List.mem_append_left _ (by simp [e]),uH,hz,h8⟩,setRow_heap _ _ _ _ _ _ r5,?_⟩
 · rcases hk with e| e| e| e| e| e
   · have:=(hold2 k (Or.inl e)).2;omega
   · have:=(hold2 k (Or.inr (Or.inl e))).2;omega
   · have:=(hold2 k (Or.inr (Or.inr (Or.inl e)))).2;omega
   · have:=(hold2 k (Or.inr (Or.inr (Or.inr (Or.inl e))))).2;omega
   · have:=(hold2 k (Or.inr (Or.inr (Or.inr (Or.inr (Or.inl e)))))).2;omega
   · rcases List.mem_append.1 e with z| z
     · have:=(tj k (by simpa using z)).1;omega
     · have:=(hold2 k (Or.inr (Or.inr (Or.inr (Or.inr (Or.inr z)))))).2;omega
 · exact below_setRow (((aq w3 (.cells o4 93)).mono hb).trans (fr.below (fun k q=>(hold2 k (by simp [q])).1) (by rw [hsz];omega))) hb _
theorem Dx(w:World)(base:Nat)(S:au)(h:SK w base S)(hlv:ak S.D S.ep=0)(hl:S.aB.length<=100000)(m:Nat)(hm:S.s.ma=m)(eY:S.nx=m)(hm2:2<=m/\m<=100000)(hN:S.N<2500000000000000000)(q:Nat)(hq:2<=q/\q<m/\q<S.D.np)(hv:S.a.val (q:Int)=none)(hr:S.D.reads<3000000000000000000)(kd:Int)(zs:List Int)(hu:bh q (S.D.aj q)=(kd,zs,0))(uH:1<=kd/\kd<=3)(hz:zs.length<=246)(h8:aS zs):
   Calls Tryz.prog 15 #[.pointer (some ⟨S.st,0,none⟩), .int .i64 q] w fun e w'=> ∃S' v,e= .returned (.tuple #[.int .i64 kd,v, .int .i64 0])/\Own w' w.heap.size v zs/\(∀k,v.ownBlock=some k->k∉S'.fp)/\(SK w' base S'/\xk {S with D:={S.D with reads:=S.D.reads+1}} S'/\S'.N=S.N+2/\S'.vs=S.vs/\S'.aB=S.aB/\(S'.kv=fun k=>if k=(q:Int)then(kd,zs)else S.kv k)/\ ∃c:Ct,S'.a=(S.a.get q).put q c)/\Below base w w'/\Fr S.fp w w'/\Gr w S.fp S'.fp:=by
 have cX:=h.base
 have HL:=aa (dn w base S h)
 rw [hlv]at HL
 have HA:=aa (fun w1 (z:Below w.heap.size w w1)=>jF w1 base S (h.below z) hl ⟨by omega,by omega⟩ (q:Int))
 rw [decide_eq_true (show 2<=(q:Int)/\(q:Int)<S.s.ma+S.aB.length by omega)]at HA
 have HH:=aa (fun w1 (z:Below w.heap.size w w1)=>h.below z)
 have HV:=aa hv
 have uI:=aa (show Ca.jU (q:Int)from⟨by omega,by omega⟩)
 have fw:=aa cX
 obtain⟨pg,fY⟩: ∃pg:Int,pg=(q:Int):=⟨_,rfl⟩
 rw [<-fY]at HA HV uI⊢
 have jw:=aa fY
 clear h hl cX fY hv
 go_enter Tryz.func15,Tryz.ntmps15
 go_wp2_with fail
 refine HL.out.mono ?_
 rintro e w1 ⟨rfl,hb1⟩
 have HB1:=aa hb1
 clear hb1 HL
 go_wp2_with fail
 refine(HA.out w1 HB1.out).mono ?_
 rintro e w2 ⟨rfl,hb2⟩
 have HB2:=aa (HB1.out.trans (hb2.mono HB1.out.size))
 clear hb2 HB1 w1 HA
 have c2:=(HH.out w2 HB2.out).c2
 have HG:Hid (Calls Tryz.prog 40 #[.pointer (some ⟨S.pc,0,none⟩), .int .i64 pg] w2 fun x w'=>x= .returned (.tuple #[.agg #[.int .i64 0, .slice none 0 0], .bool false])/\Ca.Nx base S.FC S.pc S.N w2 (S.a.get pg) w'):=aa (by
   have:=Ca.yn w2 base S.FC S.pc S.N S.a (HH.out w2 HB2.out).ca pg uI.out (by omega)
   rw [HV.out]at this
   exact this)
 go_wp2_with fail
 refine HG.out.mono ?_
 rintro e w3 ⟨rfl,F3,hC3,hF3,hG3⟩
 have HS3:=aa ((HH.out w2 HB2.out).cache hC3 hF3 hG3 (ml S.a pg) (uZ S.a pg))
 have HB3:=aa ((HB2.out.mono fw.out).trans (hF3.below (fun k hk=>((HH.out w2 HB2.out).dG (by simp [hk])).1) (Nat.le_trans fw.out HB2.out.size)))
 have FR3:=aa ((Fr.ba (F:=S.fp) HB2.out).trans hF3 (fun k q=>Or.inl ((au.mem S k).2 (by simp [q]))))
 have GR3:Hid (Gr w S.FC F3):=aa (fun k q=>(hG3 k q).imp id (fun z=>Nat.le_trans HB2.out.size z))
 clear hC3 hF3 hG3 HG c2 HH
 have hB4:=aq w3 (.cells #[.int .i64 0, .slice none 0 0] 93)
 have r4:=aF w3 (.cells #[.int .i64 0, .slice none 0 0] 93)
 have HS4:=aa (HS3.out.below hB4)
 have HB4:=aa (HB3.out.trans (hB4.mono (Nat.le_trans fw.out HB3.out.size)))
 have c1:=HS4.out.c1
 have MA:=aa (Kv (w3.alloc (.cells #[.int .i64 0, .slice none 0 0] 93)) base S.F S.p S.D HS4.out.da S.g S.s S.nx S.ep HS4.out.fk hlv q ⟨hq.1,by rw [eY];omega,hq.2.2⟩ (by omega) kd zs hu pg jw.out)
 have Te: ∀(args:Array Value) (w:World),(callFunc 33 args).run Tryz.prog w= .ok (.enter 33 args) w:=enters_of Tryz.func33 (by kernel_rfl) rfl
 have R4:=aa r4
 have Pr:=aa (show S.st≠w3.heap.size from fun z=>by have q:S.st<w3.heap.size:=HS3.out.iW;rw [z]at q;exact Nat.lt_irrefl _ q)
 clear hB4 r4
 go_wp2_with fail
 refine MA.out.mono ?_
 rintro e w5 ⟨v5,rfl,hO5,hD5,hK5,hF5⟩
 obtain⟨s5,c5,hv5,_,_⟩:=hO5.form
 subst hv5
 obtain⟨c,hc⟩: ∃c:Ct,c=⟨kd,s5,zs.length,c5⟩:=⟨_,rfl⟩
 have zv:=aa (HS3.out.fetched m hm eY hD5 hK5 hF5 c kd zs (by rw [hc];exact hO5) (by rw [hc]) uH hz h8)
 have R5:=aa (show w5.heap[w3.heap.size]? =some (.cells #[.int .i64 0, .slice none 0 0] 93 (0,0))from hF5.keep R4.out (fun q=>Nat.lt_irrefl _ ((HS3.out.dG (k:=w3.heap.size) (Or.inr (Or.inr (Or.inl q)))).2)))
 have Tf:=aa HB3.out
 have FR5:=aa (((FR3.out.trans (Fr.ba (F:=S.fp) (aq w3 (.cells #[.int .i64 0, .slice none 0 0] 93))) (Gr.refl _ _))).trans hF5 (fun k q=>Or.inl ((au.mem S k).2 (by simp [q]))))
 have OB5:Hid (∀k,(Value.slice c.sp c.n c.c).ownBlock=some k->w.heap.size<=k):=aa (fun k e=>by
   obtain⟨q1,_⟩:=aH (show Own w5 _ (.slice c.sp c.n c.c) zs by rw [hc];exact hO5) k e
   have h1:=FR3.out.size
   have h2:(w3.alloc (.cells #[.int .i64 0, .slice none 0 0] 93)).heap.size=w3.heap.size+1:=by simp
   rw [h2]at q1
   omega)
 have S3:=aa FR3.out.size
 clear hO5 hD5 hK5 hF5 MA HS4 HB4 R4 c1 Te FR3
 have HF2:Hid (∀W6:World,w5.setRow w3.heap.size (av c).toArray=W6->SK W6.drew base {S with FC:=F3,N:=S.N+1,a:=S.a.get pg,D:={S.D with reads:=S.D.reads+1},nx:=m,lb:=(Value.slice c.sp c.n c.c).ownBlock.toList++S.lb}/\jQ W6.drew base ((Value.slice c.sp c.n c.c).ownBlock.toList++S.lb) c (kd,zs)/\W6.drew.heap[w3.heap.size]? =some (.cells (av c).toArray 93 (0,0))/\Below base w W6.drew/\Fr S.fp w W6.drew):=aa (fun W6 e=>by
   subst e
   obtain⟨q1,q2,q3,q4⟩:=zv.out
   have f5:=FR5.out
   exact⟨q1.drew,q2.to (fun k q=>q) (fun _ _=>rfl),q3,(Tf.out.trans q4).drew,⟨f5.os,f5.tape,f5.output,by show w.heap.size<=(w5.setRow w3.heap.size (av c).toArray).heap.size;rw [size_setRow];exact f5.size,fun k hk hn=>(setRow_other w5 _ _ _ (by have:=S3.out;omega)).trans (f5.block k hk hn)⟩⟩)
 have zy:Hid (w3.heap.size∉F3):=aa (fun q=>Nat.lt_irrefl _ (HS3.out.dG (k:=w3.heap.size) (Or.inr (Or.inr (Or.inr (Or.inl q))))).2)
 have HE5:Hid (w5.setRow w3.heap.size #[.int .i64 kd, .slice s5 zs.length c5]=w5.setRow w3.heap.size (av c).toArray):=aa (by rw [hc];rfl)
 have Em:=get_none HV.out
 have tk:=aa (zx (c:=c) Em.1)
 have rE:=aa Em.1
 have Ip:Hid (bh pg (({S.D with reads:=S.D.reads+1}:DS).aj pg.toNat)=(kd,zs,0)):=aa (by rw [jw.out];exact hu)
 have Tg:Hid (2<=pg/\pg<S.s.ma):=aa (by rw [jw.out,hm];omega)
 have MB:=aa eY
 have HN1:=aa (show S.N+1<3000000000000000000 by omega)
 clear FR5 S3 zv HS3 Tf HB3 Em HV hu hm eY hq hr hlv hN hm2 uH hz h8 hc HB2
 generalize w3.heap.size=fb at*
 clear w3 w2
 go_wp2_with (first| (refine wpList_store_row (by rfl) 93 (.tmp 8) (.tmp 48) (by rfl) fb #[.int .i64 kd, .slice s5 zs.length c5] (by rfl) (by rfl) 93 _ R5.out (by obtain⟨ic,hi1,hi2⟩:=kZ;rw [hi1];show some ic.size=_;rw [hi2];rfl) (by rfl) (by simp [Value.oneCell']) ?_;refine Hid.out ?_)| fail)
 refine aa ?_
 rw [HE5.out]
 generalize hW6:w5.setRow fb (av c).toArray=W6 at*
 obtain⟨k1,k2,k3,k4,k5⟩:=HF2.out W6 rfl
 have R6:Hid (W6.drew.rangeAt fb 0 (av c)):=aa (by
   intro j v hv
   rw [cell_of_row _ _ _ _ _ _ k3]
   simpa using hv)
 have K6:Hid (W6.drew.cell? ⟨S.st,2,none⟩=some (.pointer (some ⟨S.pc,0,none⟩))):=aa k1.c2
 have II:Hid (Calls Tryz.prog 41 #[.pointer (some ⟨S.pc,0,none⟩), .int .i64 pg, .agg (av c).toArray] W6.drew fun x w'=>x= .returned (.tuple #[])/\Ca.Nx base F3 S.pc (S.N+1) W6.drew ((S.a.get pg).put pg c) w'):=aa (Ca.NR W6.drew base F3 S.pc (S.N+1) (S.a.get pg) k1.ca pg c uI.out HN1.out rE.out)
 have kC:Hid (∀w7,Ca.Nx base F3 S.pc (S.N+1) W6.drew ((S.a.get pg).put pg c) w7->w7.rangeAt fb 0 (av c)/\w7.cell? ⟨S.st,2,none⟩=some (.pointer (some ⟨S.pc,0,none⟩))):=aa (fun w7 ⟨F7,hC,hF,hG⟩=>by
   have e1:w7.heap[S.st]? =W6.drew.heap[S.st]? :=hF.block S.st k1.iW k1.ct.2.2.1
   have e2:w7.heap[fb]? =W6.drew.heap[fb]? :=hF.block fb (aC k3) zy.out
   exact⟨fun j v hv=>(World.cell?_of_block (a:=⟨fb,0+j,none⟩) e2).trans (R6.out j v hv),(World.cell?_of_block (a:=⟨S.st,2,none⟩) e1).trans K6.out⟩)
 have MC:Hid (∀w7,Ca.Nx base F3 S.pc (S.N+1) W6.drew ((S.a.get pg).put pg c) w7-> ∃S7,SK w7 base S7/\(xk {S with D:={S.D with reads:=S.D.reads+1}} S7/\S7.N=S.N+2/\S7.vs=S.vs/\S7.aB=S.aB/\(S7.kv=fun k=>if k=pg then(kd,zs)else S.kv k)/\ ∃c:Ct,S7.a=(S.a.get pg).put pg c)/\jQ w7 base S7.lb c (kd,zs)/\(Below base w w7/\Fr S.fp w w7/\Gr w S.fp S7.fp)):=aa (fun w7 ⟨F7,hC,hF,hG⟩=>by
   refine⟨_,k1.put hC ⟨hF.os,hF.tape,hF.output,hF.size,hF.block⟩ hG c (kd,zs) pg k2 Tg.out tk.out.1 tk.out.2,⟨⟨rfl,rfl,rfl,rfl,rfl,rfl,MB.out.symm,rfl⟩,rfl,rfl,rfl,rfl,c,rfl⟩,k2.to (fun k q=>q) fun k z=>hF.block k (k1.dG (Or.inr (Or.inr (Or.inr (Or.inr (Or.inr z)))))).2 (fun y=>k1.a3 k y z),?_⟩
   have g3:Gr w S.fp F3:=fun k q=>(GR3.out k q).imp (fun z=>(au.mem S k).2 (by simp [z])) id
   refine⟨k4.trans (Below.mk hF.os hF.tape hF.output hF.size (fun k hk=>hF.block k (by have:=k1.base;omega) (fun y=>by have:=(k1.ca.lt k y).1;omega))),k5.trans ⟨hF.os,hF.tape,hF.output,hF.size,hF.block⟩ g3,fun k q=>?_⟩
   rcases(au.mem _ k).1 q with e| e| e| e| e| e
   · exact Or.inl ((au.mem S k).2 (Or.inl e))
   · exact Or.inl ((au.mem S k).2 (Or.inr (Or.inl e)))
   · exact Or.inl ((au.mem S k).2 (Or.inr (Or.inr (Or.inl e))))
   · rcases hG k e with z| z
     · exact g3 k z
     · exact Or.inr (Nat.le_trans k5.size z)
   · rcases List.mem_append.1 e with z| z
     · exact Or.inr (OB5.out k (by simpa using z))
     · exact Or.inl ((au.mem S k).2 (Or.inr (Or.inr (Or.inr (Or.inr (Or.inl z))))))
   · exact Or.inl ((au.mem S k).2 (Or.inr (Or.inr (Or.inr (Or.inr (Or.inr e)))))))
 clear k1 k2 k3 k4 k5 GR3 OB5 HF2 hW6 HE5 R5 Ip Tg MB HN1 tk rE zy uI
 go_wp2_with fail
 refine wp_region_noPanic ?_
 refine wp_region_held_drew (S:=fun w'=>w'.rangeAt fb 0 (av c)/\w'.cell? ⟨S.st,2,none⟩=some (.pointer (some ⟨S.pc,0,none⟩))) (by kernel_rfl) ⟨R6.out,K6.out⟩ (fun hHeld=>?_)
 refine ai 0 (.pointer (some ⟨S.st,0,none⟩)) rfl hHeld ?_
 try go_frame
 refine ai 4 (.int .i64 pg) rfl hHeld ?_
 try go_frame
 refine aV 5 (.agg (av c).toArray) rfl (yieldsIf_load_mid (by rfl) 93 _ rfl fb (0) rfl (av c) _ (fun w hS=>hS.1) Tryz.underlying93 rfl (by kernel_rfl)) hHeld ?_
 try go_frame
 refine ai 1 (.pointer (some ⟨S.st,0,none⟩)) rfl hHeld ?_
 try go_frame
 refine ai 2 (.pointer (some ⟨S.st,2,none⟩)) rfl hHeld ?_
 try go_frame
 refine aV 3 (.pointer (some ⟨S.pc,0,none⟩)) rfl (yA (by intro w hS;have hc:=hS.2;go_simp)) hHeld ?_
 try go_frame
 refine bR 6 rfl (fun K hK=>?_)
 go_simp
 go_at_call 41
 refine(II.out).mono ?_
 rintro e w7 ⟨rfl,hX7⟩
 go_wp2_with fail
 refine hK.out _ _ (kC.out w7 hX7) ?_
 clear hK K hHeld
 intro hHeld
 try go_frame
 refine dY ?_
 clear hHeld
 obtain⟨S7,hS7,hR7,hQ7,hB7⟩:=MC.out w7 hX7
 have rr:=(kC.out w7 hX7).1
 have n0:w7.cell? ⟨fb,0,none⟩=some (.int .i64 c.kd):=rr 0 _ rfl
 have n1:w7.cell? ⟨fb,1,none⟩=some (.slice c.sp c.n c.c):=rr 1 _ rfl
 have IC:fb<w7.heap.size:=World.block_lt_of_cell? w7 _ n0
 have HS7:=aa hS7
 have HR7:=aa hR7
 have HQ7:=aa hQ7
 have ME:=aa hB7
 have UI:=aa (Nat.le_trans fw.out (hB7.1.size))
 have Qf:=aa (show w.heap.size<=w7.heap.size from hB7.1.size)
 have Et:=aa (show c.kd=kd from hQ7.kd)
 have Qg:Hid (∀w',Below w7.heap.size w7 w'->Calls Tryz.prog 37 #[.slice c.sp c.n c.c] w' fun e w8=> ∃v,e= .returned v/\Own w8 w'.heap.size v zs/\Below w'.heap.size w' w8):=aa (fun w' q=>by
   have hq:=HQ7.out.to (w1:=w') (fun k q=>q) fun k z=>q.block k (HS7.out.dG (Or.inr (Or.inr (Or.inr (Or.inr (Or.inr z)))))).2
   obtain⟨sp,cap,e,hS,hn⟩:=hq.ow.form
   have hle:=hq.le
   obtain⟨e1,e2,e3⟩:=Value.slice.inj e
   subst e1
   subst e3
   rw [e2]
   exact qM w' zs c.sp c.c hS hn (by show zs.length<=1000;have:zs.length<=246:=hle;omega))
 clear hS7 hB7 hR7 hQ7 rr kC MC II hX7
 go_wp2_with fail
 refine wp_region_noPanic ?_
 refine wp_region_held_drew (S:=fun w'=>Below w7.heap.size w7 w') (by kernel_rfl) (Below.refl _ _).drew (fun hHeld=>?_)
 refine ai 0 (.pointer (some ⟨fb,0,none⟩)) rfl hHeld ?_
 try go_frame
 refine ai 2 (.pointer (some ⟨fb,1,none⟩)) rfl hHeld ?_
 try go_frame
 refine aV 1 (.int .i64 c.kd) rfl (yA (by intro w hS;have hc:=(hS.cell (p:=⟨fb,0,none⟩) IC).trans n0;go_simp)) hHeld ?_
 try go_frame
 refine aV 3 (.slice c.sp c.n c.c) rfl (yA (by intro w hS;have hc:=(hS.cell (p:=⟨fb,1,none⟩) IC).trans n1;go_simp)) hHeld ?_
 try go_frame
 refine bR 4 rfl (fun K hK=>?_)
 go_simp
 go_at_call 37
 refine(Qg.out _ hHeld).mono ?_
 rintro e w8 ⟨v8,rfl,hO8,hb8⟩
 obtain⟨s8,c8,hv8,_,_⟩:=hO8.form
 subst hv8
 have HO8:=aa hO8
 have ID:=aa hHeld
 clear hO8
 go_wp2_with fail
 refine hK.out _ _ (hHeld.trans (hb8.mono hHeld.size)) ?_
 clear hK K hHeld
 intro hHeld
 clear hb8
 try go_frame
 refine ai 5 (.int .i64 c.kd) rfl hHeld ?_
 try go_frame
 refine ai 6 (.slice s8 zs.length c8) rfl hHeld ?_
 try go_frame
 refine ai 7 (.int IntKind.i64 0) rfl hHeld ?_
 try go_frame
 refine dY ?_
 have HB9:=aa hHeld
 clear hHeld
 go_wp2
 go_ret3
 exact⟨S7, .slice s8 zs.length c8,by rw [Et.out];rfl,HO8.out.base (Nat.le_trans Qf.out ID.out.size),(fun k e q=>by have h1:=(aH HO8.out k e).1;have h2:=ID.out.size;have h3:=(HS7.out.cF q).2;omega),⟨HS7.out.below HB9.out,HR7.out⟩,ME.out.1.trans (HB9.out.mono UI.out),ME.out.2.1.trans (Fr.ba HB9.out) ME.out.2.2,ME.out.2.2⟩
theorem Dy(w:World)(base:Nat)(S:au)(h:SK w base S)(hlv:ak S.D S.ep=0)(hge:S.s.ge≠1099511627776)(hl:S.aB.length<=100000)(hm:0<=S.s.ma/\S.s.ma<=100000)(hd:Int)(hd0:hd≠0)(hd2:2<=hd/\hd<S.s.ma+S.aB.length)(R:Ending->World->Prop)(nD: ∀w1,Below w.heap.size w w1->Calls Tryz.prog 77 #[.pointer (some ⟨S.st,0,none⟩), .int .i64 hd] w1 fun e w'=> ∃c,c≠0/\e= .returned (.int .i64 c)/\R (.returned (.int .i64 c)) w'):
   Calls Tryz.prog 50 #[.pointer (some ⟨S.st,0,none⟩), .int .i64 hd] w fun e w'=>R e w':=by
 have HL:=aa (dn w base S h)
 rw [hlv]at HL
 have mn:=aa (fun w1 (q:Below w.heap.size w w1)=>iX w1 base S (h.below q))
 have sZ:=aa nD
 have HA:=aa (fun w1 (z:Below w.heap.size w w1)=>jF w1 base S (h.below z) hl hm hd)
 rw [decide_eq_true hd2]at HA
 have hd1:(hd !=0)=true:=by simpa using hd0
 have hg1:(S.s.ge==1099511627776)=false:=by simpa using hge
 clear h hlv nD hge hl hm hd0 hd2
 go_enter Tryz.func50,Tryz.ntmps50
 go_wp2_with fail
 refine HL.out.mono ?_
 rintro e w1 ⟨rfl,hb1⟩
 have HB1:=aa hb1
 clear hb1 HL
 go_wp2_with fail
 refine(HA.out w1 HB1.out).mono ?_
 rintro e wa ⟨rfl,hba⟩
 have mQ:=aa (HB1.out.trans (hba.mono HB1.out.size))
 clear hba HB1 w1 HA
 go_wp2_with fail
 refine(mn.out wa mQ.out).mono ?_
 rintro e w2 ⟨rfl,hb2⟩
 have HB2:=aa (mQ.out.trans (hb2.mono mQ.out.size))
 clear hb2 mQ wa mn
 go_wp2_with (first| refine gh rfl _ rfl S.s S.s.ge rfl rfl ?_)
 refine(sZ.out w2 HB2.out).mono ?_
 rintro e w3 ⟨c,hc,rfl,hR⟩
 have hc2:(c !=0)=true:=by simpa using hc
 have HR:=aa hR
 clear hR hc sZ
 go_wp2
 exact HR.out
theorem FU(w:World)(base:Nat)(S:au)(h:SK w base S)(hlv:ak S.D S.ep=0)(hge:S.s.ge≠1099511627776)(hl:S.aB.length<=100000)(hm:0<=S.s.ma/\S.s.ma<=100000)(hd:Int)(hd0:hd≠0)(hd2:2<=hd/\hd<S.s.ma+S.aB.length)(hN:S.N<3000000000000000000)(R:World->Prop)(nD: ∀w1,Below w.heap.size w w1->Calls Tryz.prog 77 #[.pointer (some ⟨S.st,0,none⟩), .int .i64 hd] w1 fun e w'=>e= .returned (.int .i64 0)/\w'.heap[S.st]? =some (.cells (kY S.g S.pc S.sv).toArray 96 (0,0))/\Ca.CA w' base S.FC S.pc S.N S.a/\R w'):
   Calls Tryz.prog 50 #[.pointer (some ⟨S.st,0,none⟩), .int .i64 hd] w fun e w'=> ∃w3,e= .returned (.int .i64 0)/\R w3/\Ca.Nx base S.FC S.pc S.N (w3.setCell ⟨S.st,3,none⟩ (.slice none 0 0)) S.a.settle w':=by
 have HL:=aa (dn w base S h)
 rw [hlv]at HL
 have mn:=aa (fun w1 (q:Below w.heap.size w w1)=>iX w1 base S (h.below q))
 have sZ:=aa nD
 have HA:=aa (fun w1 (z:Below w.heap.size w w1)=>jF w1 base S (h.below z) hl hm hd)
 rw [decide_eq_true hd2]at HA
 have hd1:(hd !=0)=true:=by simpa using hd0
 have gF:=aa h.ct.2.2.1
 have hg1:(S.s.ge==1099511627776)=false:=by simpa using hge
 clear h hlv nD hge hl hm hd0 hd2
 go_enter Tryz.func50,Tryz.ntmps50
 go_wp2_with fail
 refine HL.out.mono ?_
 rintro e w1 ⟨rfl,hb1⟩
 have HB1:=aa hb1
 clear hb1 HL
 go_wp2_with fail
 refine(HA.out w1 HB1.out).mono ?_
 rintro e wa ⟨rfl,hba⟩
 have mQ:=aa (HB1.out.trans (hba.mono HB1.out.size))
 clear hba HB1 w1 HA
 go_wp2_with fail
 refine(mn.out wa mQ.out).mono ?_
 rintro e w2 ⟨rfl,hb2⟩
 have HB2:=aa (mQ.out.trans (hb2.mono mQ.out.size))
 clear hb2 mQ wa mn
 go_wp2_with (first| refine gh rfl _ rfl S.s S.s.ge rfl rfl ?_)
 refine(sZ.out w2 HB2.out).mono ?_
 rintro e w3 ⟨rfl,r3,hC3,hR⟩
 have HR:=aa hR
 have k3:w3.cell? ⟨S.st,3,none⟩=some S.sv:=by rw [cell_of_row _ _ _ _ _ _ r3];rfl
 have kf:w3.frozen? ⟨S.st,3,none⟩=false:=frozen_of_row _ _ _ _ _ r3
 have r4:(w3.setCell ⟨S.st,3,none⟩ (.slice none 0 0)).heap[S.st]? =some (.cells (kY S.g S.pc (.slice none 0 0)).toArray 96 (0,0)):=by rw [heap_setCell_same _ _ _ _ _ _ r3];rfl
 have k2:(w3.setCell ⟨S.st,3,none⟩ (.slice none 0 0)).cell? ⟨S.st,2,none⟩=some (.pointer (some ⟨S.pc,0,none⟩)):=by rw [cell_of_row _ _ _ _ _ _ r4];rfl
 have BM:Hid (Calls Tryz.prog 78 #[.pointer (some ⟨S.pc,0,none⟩)] (w3.setCell ⟨S.st,3,none⟩ (.slice none 0 0)) fun x w'=>x= .returned (.tuple #[])/\Ca.Nx base S.FC S.pc S.N (w3.setCell ⟨S.st,3,none⟩ (.slice none 0 0)) S.a.settle w'):=aa (Ca.wW _ base S.FC S.pc S.N S.a (by
   obtain⟨mm,n,s,L,e,c,r⟩:=hC3
   exact⟨mm,n,s,L,e,c.of_heap fun k hk=>heap_setCell_other _ ⟨S.st,3,none⟩ k _ (fun q=>gF.out (by have q2:k=S.st:=q;rw [<-q2,e];exact hk)),r⟩) hN)
 clear hR hC3 r3 r4 sZ
 go_wp2_with fail
 refine BM.out.mono ?_
 rintro e w4 ⟨rfl,hX⟩
 have HX:=aa hX
 clear hX BM
 go_wp2
 go_ret
 exact⟨w3,rfl,HR.out,HX.out⟩
theorem Dz(w:World)(base:Nat)(S:au)(h:SK w base S)(c:Int)(hlv:ak S.D S.ep=c)(hc:c≠0)(hd:Int):
   Calls Tryz.prog 50 #[.pointer (some ⟨S.st,0,none⟩), .int .i64 hd] w fun e w'=>e= .returned (.int .i64 c)/\Below w.heap.size w w':=by
 have HL:=aa (dn w base S h)
 rw [hlv]at HL
 have hc1:(c !=0)=true:=by simpa using hc
 clear h hlv hc
 go_enter Tryz.func50,Tryz.ntmps50
 go_wp2_with fail
 refine HL.out.mono ?_
 rintro e w1 ⟨rfl,hb1⟩
 have HB1:=aa hb1
 clear hb1 HL
 go_wp2
 go_ret
 exact⟨rfl,HB1.out⟩
theorem DC(w:World)(base:Nat)(S:au)(h:SK w base S)(hlv:ak S.D S.ep=0)(hl:S.aB.length<=100000)(hm:0<=S.s.ma/\S.s.ma<=100000)(hd:Int)(hd0:hd≠0)(hd2: ¬(2<=hd/\hd<S.s.ma+S.aB.length)):
   Calls Tryz.prog 50 #[.pointer (some ⟨S.st,0,none⟩), .int .i64 hd] w fun e w'=>e= .returned (.int .i64 41)/\Below w.heap.size w w':=by
 have HL:=aa (dn w base S h)
 rw [hlv]at HL
 have HA:=aa (fun w1 (z:Below w.heap.size w w1)=>jF w1 base S (h.below z) hl hm hd)
 rw [decide_eq_false hd2]at HA
 have hd1:(hd !=0)=true:=by simpa using hd0
 clear h hlv hl hm hd0 hd2
 go_enter Tryz.func50,Tryz.ntmps50
 go_wp2_with fail
 refine HL.out.mono ?_
 rintro e w1 ⟨rfl,hb1⟩
 have HB1:=aa hb1
 clear hb1 HL
 go_wp2_with fail
 refine(HA.out w1 HB1.out).mono ?_
 rintro e wa ⟨rfl,hba⟩
 have mQ:=aa (HB1.out.trans (hba.mono HB1.out.size))
 clear hba HB1 w1 HA
 go_wp2
 go_ret
 exact⟨rfl,mQ.out⟩
theorem uJ(w:World)(base:Nat)(S:au)(h:SK w base S)(hlv:ak S.D S.ep=0)(hge:S.s.ge=1099511627776):
   Calls Tryz.prog 50 #[.pointer (some ⟨S.st,0,none⟩), .int .i64 0] w fun e w'=>e= .returned (.int .i64 5)/\Below w.heap.size w w':=by
 have HL:=aa (dn w base S h)
 rw [hlv]at HL
 have mn:=aa (fun w1 (q:Below w.heap.size w w1)=>iX w1 base S (h.below q))
 have hg1:(S.s.ge==1099511627776)=true:=by simpa using hge
 clear h hlv hge
 go_enter Tryz.func50,Tryz.ntmps50
 go_wp2_with fail
 refine HL.out.mono ?_
 rintro e w1 ⟨rfl,hb1⟩
 have HB1:=aa hb1
 clear hb1 HL
 go_wp2_with fail
 refine(mn.out w1 HB1.out).mono ?_
 rintro e w2 ⟨rfl,hb2⟩
 have HB2:=aa (HB1.out.trans (hb2.mono HB1.out.size))
 clear hb2 HB1 w1 mn
 go_wp2_with (first| refine gh rfl _ rfl S.s S.s.ge rfl rfl ?_)
 go_ret
 exact⟨rfl,HB2.out⟩
theorem BQ(w:World)(base:Nat)(S:au)(h:SK w base S)(hlv:ak S.D S.ep=0)(hge:S.s.ge=1099511627776)(hl:S.aB.length<=100000)(hm:0<=S.s.ma/\S.s.ma<=100000)(hd:Int)(hd0:hd≠0)(hd2:2<=hd/\hd<S.s.ma+S.aB.length):
   Calls Tryz.prog 50 #[.pointer (some ⟨S.st,0,none⟩), .int .i64 hd] w fun e w'=>e= .returned (.int .i64 5)/\Below w.heap.size w w':=by
 have HL:=aa (dn w base S h)
 rw [hlv]at HL
 have HA:=aa (fun w1 (z:Below w.heap.size w w1)=>jF w1 base S (h.below z) hl hm hd)
 rw [decide_eq_true hd2]at HA
 have hd1:(hd !=0)=true:=by simpa using hd0
 have mn:=aa (fun w1 (q:Below w.heap.size w w1)=>iX w1 base S (h.below q))
 have hg1:(S.s.ge==1099511627776)=true:=by simpa using hge
 clear h hlv hge hl hm hd0 hd2
 go_enter Tryz.func50,Tryz.ntmps50
 go_wp2_with fail
 refine HL.out.mono ?_
 rintro e w1 ⟨rfl,hb1⟩
 have HB1:=aa hb1
 clear hb1 HL
 go_wp2_with fail
 refine(HA.out w1 HB1.out).mono ?_
 rintro e wa ⟨rfl,hba⟩
 have mQ:=aa (HB1.out.trans (hba.mono HB1.out.size))
 clear hba HB1 w1 HA
 go_wp2_with fail
 refine(mn.out wa mQ.out).mono ?_
 rintro e w2 ⟨rfl,hb2⟩
 have HB2:=aa (mQ.out.trans (hb2.mono mQ.out.size))
 clear hb2 mQ wa mn
 go_wp2_with (first| refine gh rfl _ rfl S.s S.s.ge rfl rfl ?_)
 go_ret
 exact⟨rfl,HB2.out⟩
end Go.Proofs.YtpdakmhnnkaafaaGreat
namespace Go.Proofs.YtpdakmhnnkaafaaGreat
set_option maxRecDepth 100000
set_option maxHeartbeats 40000000
set_option linter.unusedVariables false
set_option linter.unusedSimpArgs false
open Go.RowKit
theorem Fr.xl{A B:List Nat}{a b:World}(h:Fr A a b)(hs: ∀x∈A,x∈B):Fr B a b:=⟨h.os,h.tape,h.output,h.size,fun k hk hn=>h.block k hk fun e=>hn (hs k e)⟩
end Go.Proofs.YtpdakmhnnkaafaaGreat
namespace Go.Proofs.YtpdakmhnnkaafaaGreat
set_option maxRecDepth 100000
set_option maxHeartbeats 40000000
set_option linter.unusedVariables false
set_option linter.unusedSimpArgs false
open Go.RowKit
open Go.Proofs.YtpdakmhnnkaafaaGreat.Ca (Ct ct0 av bV AS)
attribute [local go_sem ↓] Go.wp_at_zero Go.wp_at_succ
theorem Lc{D:DS}(h:D.armed=0):D.bn=D:=by unfold DS.bn;rw [if_pos h]
theorem RJ{D:DS}(o:OW)(h:D.armed=0):(D.wr o).armed=0/\(D.wr o).power=D.power:=by
 have e:D.wr o=({D.dK o with writes:=D.writes+1}:DS):=Lc h
 rw [e];exact⟨h,rfl⟩
theorem yw: ∀(l:List (Int×List Int)) (D:DS) (m:Nat),D.armed=0->(bW D m l).armed=0/\(bW D m l).power=D.power
 | [],D,m,h=>⟨h,rfl⟩
 | v::r,D,m,h=>by
   obtain⟨h1,h2⟩:=RJ ⟨m,cy v.1 m v.2⟩ h
   obtain⟨h3,h4⟩:=yw r (D.wr ⟨m,cy v.1 m v.2⟩) (m+1) h1
   exact⟨h3,h4.trans h2⟩
theorem tq: ∀(l:List Ct) (n:Int) (x:Int×Ct),x∈fW n l-> ∃j:Nat,j<l.length/\x=(n+j,l.getD j ct0)
 | [],n,x,h=>by cases h
 | c::l,n,x,h=>by
   rcases List.mem_cons.1 h with e| e
   · exact⟨0,by simp,by rw [e];simp⟩
   · obtain⟨j,h1,h2⟩:=tq l (n+1) x e
     refine⟨j+1,by simpa using h1,?_⟩
     rw [h2,List.getD_cons_succ,show n+1+(j:Int)=n+((j+1:Nat):Int) by push_cast;omega]
theorem SK.NY{w1 w3 w':World}{base:Nat}{S:au}(h:SK w1 base S)(m:Nat)(hm:S.s.ma=m)(hm2:2<=m){F':List Nat}{D':DS}{s2:aD}(hs2:s2.ma=(m+S.vs.length:Nat))(fY:m+S.vs.length<=4096)(hD:DA w3 base F' S.p D')(hf:FK w3 S.g S.p s2 s2.ma S.ep)(fr:Fr (S.g::S.F) w1 w3)(gr:Gr w1 S.F F')(hX:Ca.Nx base S.FC S.pc S.N (w3.setCell ⟨S.st,3,none⟩ (.slice none 0 0)) S.a.settle w'):
   ∃F2,SK w' base {S with F:=F',FC:=F2,D:=D',s:=s2,nx:=m+S.vs.length,N:=S.N+1,a:=S.a.settle,sv:= .slice none 0 0,aB:= [],vs:= [],kv:=fun k=>if(m:Int)<=k/\k<(m+S.vs.length:Nat)then S.vs.getD (k-m).toNat (0,[])else S.kv k}/\Below base w1 w'/\Fr S.fp w1 w'/\Gr w1 S.fp (au.fp {S with F:=F',FC:=F2,sv:= .slice none 0 0}):=by
 obtain⟨F2,hC,hF,hG⟩:=hX
 have hs3:(w3.setCell ⟨S.st,3,none⟩ (.slice none 0 0)).heap.size=w3.heap.size:=by simp [World.setCell]
 obtain⟨o1,o2,o3,o4⟩:=h.off fr
 have hold2: ∀k,(k=S.g\/k=S.st\/k∈S.F\/k∈S.FC\/S.sv.ownBlock=some k\/k∈S.lb)->base<=k/\k<w1.heap.size:=fun k q=>h.dG q
 have s13:=fr.size
 have cX:=h.base
 have keep: ∀k,k<w3.heap.size->k≠S.st->k∉S.FC->w'.heap[k]? =w3.heap[k]? :=fun k a b c=>(hF.block k (by rw [hs3];exact a) c).trans (heap_setCell_other _ ⟨S.st,3,none⟩ k _ b)
 have r3:w3.heap[S.st]? =some (.cells (kY S.g S.pc S.sv).toArray 96 (0,0)):=o1.trans h.sk
 have r4:(w3.setCell ⟨S.st,3,none⟩ (.slice none 0 0)).heap[S.st]? =some (.cells (kY S.g S.pc (.slice none 0 0)).toArray 96 (0,0)):=by rw [heap_setCell_same _ _ _ _ _ _ r3];rfl
 have r5:w'.heap[S.st]? =some (.cells (kY S.g S.pc (.slice none 0 0)).toArray 96 (0,0)):=(hF.block S.st (aC r4) h.ct.2.2.1).trans r4
 have FV: ∀k∈F',k≠S.st/\k∉S.FC/\k∉S.lb:=fun k hk=>by
   rcases gr k hk with z| z
   · exact⟨fun e=>h.ct.2.1 (e▸z),h.a1 k z,h.a2 k z⟩
   · exact⟨fun e=>by have:=h.iW;omega,fun e=>by have:=(hold2 k (by simp [e])).2;omega,fun e=>by have:=(hold2 k (by simp [e])).2;omega⟩
 have hl: ∀k∈S.lb,w'.heap[k]? =w1.heap[k]? :=fun k q=>(keep k (by have:=(hold2 k (by simp [q])).2;omega) (fun z=>h.ct.2.2.2 (z▸q)) (fun z=>h.a3 k z q)).trans (o3 k q)
 have hF2: ∀k∈F2,k∈S.FC\/w3.heap.size<=k:=fun k q=>(hG k q).imp id (fun z=>by rw [hs3]at z;exact z)
 refine⟨F2,⟨hD.of_heap fun k q=>keep k (hD.lt k q).2 (FV k q).1 (FV k q).2.1,?_,hC,r5,World.ownsRow_nil _ _ _ _,fun k q=>⟨(h.lb k q).1,?_⟩,rfl,fun j hj=>absurd hj (Nat.not_lt_zero j),fun x hx=>?_,rfl,fun k hk q=>?_,fun k hk q=>(FV k hk).2.2 q,fun k hk q=>?_,h.bg,h.bs,h.bp⟩,?_,?_,?_⟩
 · show FK w' S.g S.p s2 ((m+S.vs.length:Nat):Int) S.ep
   rw [<-hs2]
   exact(keep S.g (aC hf) (fun q=>h.ct.1 q.symm) h.kE.2.1).trans hf
 · obtain⟨cs,hc⟩:=(h.lb k q).2
   exact⟨cs,(hl k q).trans hc⟩
 · have hx2:x∈S.a.held.reverse++S.a.clean:=List.mem_of_mem_take hx
   rcases List.mem_append.1 hx2 with z| z
   · have z2:=List.mem_reverse.1 z
     rw [h.hd]at z2
     obtain⟨j,hj,rfl⟩:=tq _ _ _ z2
     have cv:=h.cv j hj
     have hj2:j<S.vs.length:=h.cl▸hj
     have e:S.s.ma+(j:Int)=((m+j:Nat):Int):=by rw [hm];push_cast;rfl
     refine⟨S.vs.getD j (0,[]),cv.to (fun k q=>q) hl,?_,?_,?_⟩
     · show 2<=S.s.ma+(j:Int);rw [e];omega
     · show S.s.ma+(j:Int)<s2.ma;rw [e,hs2];omega
     · show(if(m:Int)<=S.s.ma+(j:Int)/\S.s.ma+(j:Int)<(m+S.vs.length:Nat)then S.vs.getD (S.s.ma+(j:Int)-m).toNat (0,[])else S.kv (S.s.ma+(j:Int)))=_
       rw [if_pos ⟨by rw [e];omega,by rw [e];omega⟩,e,show(((m+j:Nat):Int)-(m:Int)).toNat=j by omega]
   · obtain⟨v,c1,c2,c3,c4⟩:=h.ck x z
     refine⟨v,c1.to (fun k q=>q) hl,c2,?_,?_⟩
     · show x.1<s2.ma;rw [hs2];rw [hm]at c3;push_cast;omega
     · show(if(m:Int)<=x.1/\x.1<(m+S.vs.length:Nat)then S.vs.getD (x.1-m).toNat (0,[])else S.kv x.1)=_
       rw [if_neg (by rw [hm]at c3;omega)];exact c4
 · rcases hF2 k q with z| z
   · exact(FV k hk).2.1 z
   · have:=(hD.lt k hk).2;omega
 · rcases hF2 k hk with z| z
   · exact h.a3 k z q
   · have:=(hold2 k (by simp [show k∈S.lb from q])).2;omega
 · exact(fr.below (fun k hk=>(hold2 k (by rcases List.mem_cons.1 hk with z| z<;>simp [z])).1) cX).trans (((Below.refl base w3).setCell (p:=⟨S.st,3,none⟩) h.bs _).trans (hF.below (fun k hk=>(hold2 k (by simp [hk])).1) (by rw [hs3];omega)))
 · have f1:Fr S.fp w1 w3:=fr.xl fun k hk=>(au.mem S k).2 (by rcases List.mem_cons.1 hk with z| z<;>simp [z])
   have f2:Fr S.fp w1 (w3.setCell ⟨S.st,3,none⟩ (.slice none 0 0)):=f1.setCell ((au.mem S S.st).2 (by simp)) 3 _
   exact f2.trans ⟨hF.os,hF.tape,hF.output,hF.size,hF.block⟩ (fun k q=>Or.inl ((au.mem S k).2 (by simp [q])))
 · intro k q
   rcases(au.mem _ k).1 q with e| e| e| e| e| e
   · exact Or.inl ((au.mem S k).2 (Or.inl e))
   · exact Or.inl ((au.mem S k).2 (Or.inr (Or.inl e)))
   · exact(gr k e).imp (fun z=>(au.mem S k).2 (by simp [z])) id
   · exact(hF2 k e).imp (fun z=>(au.mem S k).2 (by simp [z])) (fun z=>by omega)
   · exact Or.inl ((au.mem S k).2 (Or.inr (Or.inr (Or.inr (Or.inr (Or.inl e))))))
   · cases e
end Go.Proofs.YtpdakmhnnkaafaaGreat

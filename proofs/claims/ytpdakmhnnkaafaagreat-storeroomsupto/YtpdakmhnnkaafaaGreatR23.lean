import Derived.Test.YtpdakmhnnkaafaaGreatR22
import Derived.Test.YtpdakmhnnkaafaaGreatR16
namespace Go.Proofs.YtpdakmhnnkaafaaGreat
set_option maxRecDepth 100000
set_option maxHeartbeats 40000000
set_option linter.unusedVariables false
set_option linter.unusedSimpArgs false
open Go.RowKit
open Go.Proofs.YtpdakmhnnkaafaaGreat.Ca (Ct ct0 av bV AS)
theorem Jo(w:World)(base:Nat)(S:au)(b:Nat)(h:SK w base S)(G:Gd S b)(hb:b<=1000000000)(W:Wr)(c:Nat)(hW:WO w base W c)(hr:gK W S)(hc:c<=1000000000)(zr:List Int)(h8:aS zr)(hl:zr.length<=140737488352000)(at_ nn m_:Int)(sp:Option Addr)(cap bt:Nat)(hS:Src w sp cap zr)(eD:0<zr.length-> ∀a,sp=some a->a.block<base):
   Calls Tryz.prog 24 #[.pointer (some ⟨W.g,0,none⟩), .pointer (some ⟨S.st,0,none⟩), .agg (aK 3 at_ nn m_ (.slice sp zr.length cap) bt)] w (iZ w base S 3 nn zr W c):=by
 have hq:(((W.turn:Int)+1)%2==0)=true\/(((W.turn:Int)+1)%2==0)=false:=by
   cases(((W.turn:Int)+1)%2==0)
   · exact Or.inr rfl
   · exact Or.inl rfl
 rcases hW.rz with z| z<;>rcases hq with q| q
 · exact Cw w base S b h G hb W c hW hr hc at_ nn m_ zr h8 hl z q sp _ cap bt rfl hS eD
 · exact Cu w base S b h G hb W c hW hr hc at_ nn m_ zr h8 hl z q sp _ cap bt rfl hS eD
 · exact Cs w base S b h G hb W c hW hr hc at_ nn m_ zr h8 hl z q sp _ cap bt rfl hS eD
 · exact Ce w base S b h G hb W c hW hr hc at_ nn m_ zr h8 hl z q sp _ cap bt rfl hS eD
theorem Oc(w:World)(base:Nat)(S:au)(b:Nat)(h:SK w base S)(G:Gd S b)(hb:b<=1000000000)(W:Wr)(c:Nat)(hW:WO w base W c)(hr:gK W S)(hc:c<=1000000000)(zr:List Int)(h8:aS zr)(hl:zr.length<=140737488352000)(kd:Int)(hk:2<=kd/\kd<=11)(at_ nn m_:Int)(sp:Option Addr)(cap bt:Nat)(hS:Src w sp cap zr)(eD:0<zr.length-> ∀a,sp=some a->a.block<base):
   Calls Tryz.prog 24 #[.pointer (some ⟨W.g,0,none⟩), .pointer (some ⟨S.st,0,none⟩), .agg (aK kd at_ nn m_ (.slice sp zr.length cap) bt)] w (iZ w base S kd nn zr W c):=by
 have hk2:kd=2\/kd=3\/kd=4\/kd=5\/kd=6\/kd=7\/kd=8\/kd=9\/kd=10\/kd=11:=by omega
 rcases hk2 with rfl| rfl| rfl| rfl| rfl| rfl| rfl| rfl| rfl| rfl
 · exact Lk w base S b h G hb W c hW hr hc at_ nn m_ zr sp _ cap bt
 · exact Jo w base S b h G hb W c hW hr hc zr h8 hl at_ nn m_ sp cap bt hS eD
 · exact Gg w base S b h G hb W c hW hr at_ nn m_ zr sp _ cap bt
 · exact Je w base S b h G hb W c hW hr at_ nn m_ zr sp _ cap bt
 · exact Lh w base S b h G hb W c hW hr at_ nn m_ zr sp _ cap bt
 · exact Jg w base S b h G hb W c hW hr at_ nn m_ zr sp _ cap bt
 · exact Li w base S b h G hb W c hW hr at_ nn m_ zr sp _ cap bt
 · exact Gh w base S b h G hb W c hW hr at_ nn m_ zr sp _ cap bt
 · exact Jf w base S b h G hb W c hW hr at_ nn m_ zr sp _ cap bt
 · exact Jh w base S b h G hb W c hW hr at_ nn m_ zr sp _ cap bt
def er(D:DS):DS:={D with reads:=0}
theorem vz(D:DS):(er D).bn=er D.bn:=by
 unfold DS.bn
 show(if D.armed=0 then _ else if D.armed=1 then _ else _)=_
 split
 · rfl
 · split<;>rfl
theorem Gi(D:DS)(o:OW):(er D).wr o=er (D.wr o):=vz ({D.dK o with writes:=D.writes+1}:DS)
theorem Jp(D:DS):(er D).synced=er D.synced:=by
 unfold DS.synced
 rw [vz]
 rfl
theorem yz: ∀(l:List (Int×List Int)) (D:DS) (m:Nat),bW (er D) m l=er (bW D m l)
 | [],D,m=>rfl
 | v::r,D,m=>by simp only [bW];rw [Gi];exact yz r _ _
theorem Od(D:DS)(ep:Int):ak (er D) ep=ak D ep:=rfl
theorem RS(D:DS)(x:St):x.go (er D)=(er (x.go D).1,(x.go D).2):=by
 cases x with
 | sync=>
   show sy (er D)=(er (sy D).1,(sy D).2)
   unfold sy
   show(if D.armed=1 then _ else _)=_
   split
   · rw [vz]
   · rw [Jp]
 | lay s a b=>
   show((er D).wr _,D.eW)=_
   rw [Gi];rfl
theorem Jq: ∀(l:List St) (D:DS),aX (er D) l=(er (aX D l).1,(aX D l).2)
 | [],D=>rfl
 | x::r,D=>by
   simp only [aX]
   rw [RS]
   dsimp only
   split
   · exact Jq r _
   · rfl
structure PS where
 s:aD
 ep:Int
 vs:List (Int×List Int)
structure PA where
 E:Int
 N:Int
 rz:List Int
 s:aD
def bH(S:au):PS:=⟨S.s,S.ep,S.vs⟩
def MQ(P:PS)(hd:Int):aD:=⟨P.s.wd,P.s.ge+1,P.s.ma+P.vs.length,hd,P.s.pg⟩
def pM(D:DS)(P:PS)(hd:Int):DS×Int:=
 if ak (bW D P.s.ma.toNat P.vs) P.ep=0 then aX (bW D P.s.ma.toNat P.vs) [.sync, .lay (MQ P hd) 0 0, .sync]else(bW D P.s.ma.toNat (P.vs.take D.armed.toNat),2)
theorem Oe(D:DS)(P:PS)(hd:Int):pM (er D) P hd=(er (pM D P hd).1,(pM D P hd).2):=by
 unfold pM
 rw [yz,Od]
 split
 · exact Jq _ _
 · show(bW (er D) P.s.ma.toNat (P.vs.take D.armed.toNat),(2:Int))=_
   rw [yz]
def Jr(P:PS)(q:Int):Prop:=2<=q/\q<P.s.ma+P.vs.length
instance (P:PS) (q:Int):Decidable (Jr P q):=inferInstanceAs (Decidable (_/\_))
def qZ(D:DS)(P:PS)(q:Int):PA:=
 if ak D P.ep≠0 then⟨ak D P.ep,0,[],sup0⟩
 else if¬Jr P q then⟨41,0,[],sup0⟩
 else if q<P.s.ma then
   if(bh q (D.aj q.toNat)).2.2≠0 then⟨4,0,[],sup0⟩
   else⟨0,(bh q (D.aj q.toNat)).1,(bh q (D.aj q.toNat)).2.1,sup0⟩
 else⟨0,(P.vs.getD (q-P.s.ma).toNat (0,[])).1,(P.vs.getD (q-P.s.ma).toNat (0,[])).2,sup0⟩
def tJ(D:DS)(P:PS)(kd:Int)(zs:List Int):PS×PA:=
 if ak D P.ep≠0 then(P,⟨ak D P.ep,0,[],sup0⟩)
 else if kd<1\/3<kd then(P,⟨50,0,[],sup0⟩)
 else if 246<zs.length then(P,⟨51,0,[],sup0⟩)
 else if P.s.ma+P.vs.length=(D.np:Int)then(P,⟨5,0,[],sup0⟩)
 else(⟨P.s,P.ep,P.vs++ [(kd,zs)]⟩,⟨0,P.s.ma+P.vs.length,[],sup0⟩)
def ql(D:DS)(P:PS)(x:Int):PS×PA:=
 if ak D P.ep≠0 then(P,⟨ak D P.ep,0,[],sup0⟩)
 else if x<P.s.ma\/P.s.ma+P.vs.length<x then(P,⟨1,0,[],sup0⟩)
 else(⟨P.s,P.ep,P.vs.take (x-P.s.ma).toNat⟩,⟨0,0,[],sup0⟩)
def oa(D:DS)(P:PS)(hd:Int):DS×PS×PA:=
 if ak D P.ep≠0 then(D,P,⟨ak D P.ep,0,[],sup0⟩)
 else if hd≠0/\ ¬Jr P hd then(D,P,⟨41,0,[],sup0⟩)
 else if P.s.ge=1099511627776 then(D,P,⟨5,0,[],sup0⟩)
 else if(pM D P hd).2≠0 then((pM D P hd).1,P,⟨(pM D P hd).2,0,[],sup0⟩)
 else((pM D P hd).1,⟨MQ P hd,P.ep,[]⟩,⟨0,0,[],sup0⟩)
def jI(D:DS)(P:PS)(kd nn:Int)(zr:List Int):DS×PS×PA:=
 if kd=2 then(D,P,qZ D P nn)
 else if kd=3 then(D,tJ D P nn (zr.take 300))
 else if kd=4 then(D,ql D P nn)
 else if kd=5 then oa D P nn
 else(D,P,⟨if kd=6 then ak D P.ep else 0,if kd=8 then P.s.ma+P.vs.length else if kd=9 then(P.vs.length:Int)else if kd=10 then(D.np:Int)else 0,[],if kd=7 then P.s else sup0⟩)
def mR(S:au):Prop:=ak S.D S.ep=0-> ∀x∈S.a.clean,bh x.1 (S.D.aj x.1.toNat)=((S.kv x.1).1,(S.kv x.1).2,0)
structure Cn (D D':DS) (k:Nat):Prop where
 np:D'.np=D.np
 ep:D'.ag=D.ag
 rd:D'.reads<=D.reads+k
 wr:D'.writes<=D.writes+k
 sy:D'.aA<=D.aA+k
 op:D'.ops.length<=D.ops.length+k
theorem Cn.refl(D:DS)(k:Nat):Cn D D k:=⟨rfl,rfl,by omega,by omega,by omega,by omega⟩
theorem qm{S S':au}(h:mR S)(hD: ∀q,S'.D.aj q=S.D.aj q)(hl:ak S'.D S'.ep=0->ak S.D S.ep=0)(hk:S'.kv=S.kv)(hc: ∀x∈S'.a.clean,x∈S.a.clean):mR S':=fun l x hx=>by
 rw [hD,hk];exact h (hl l) x (hc x hx)
theorem Gk{a:AS Int Ct}{x:Int×Ct}(h:x∈a.settle.clean):x∈a.held\/x∈a.clean:=by
 have hx2:x∈a.held.reverse++a.clean:=List.mem_of_mem_take h
 rcases List.mem_append.1 hx2 with z| z
 · exact Or.inl (List.mem_reverse.1 z)
 · exact Or.inr z
theorem ub{S S':au}{b:Nat}{D':DS}{s':aD}{vs':List (Int×List Int)}{BU:Int->Int×List Int}(G:Gd S b)(hV:Vw S S' D' s' vs' BU)(hC:Cn S.D D' 200)(gH:S'.aB.length=S'.vs.length)(hf:s'.ma+vs'.length<=(S.D.np:Int))(hv:aJ s'=true)(hp:s'.pg=S.s.pg):Gd S' (b+200):=by
 have e1:=hV.D
 have e2:=hV.s
 have e3:=hV.vs
 have g1:=G.N
 have g2:=G.rd
 have g3:=G.wr
 have g4:=G.sy
 have g5:=G.ops
 have c1:=hC.np
 have c2:=hC.rd
 have c3:=hC.wr
 have c4:=hC.sy
 have c5:=hC.op
 have n1:=hV.N
 exact⟨hV.nx,by rw [e1,e2,gH,e3,c1];exact hf,by rw [e1,c1];exact G.np,by rw [e2];exact hv,by rw [e2,e1,c1,hp];exact G.pg,by omega,by rw [e1];omega,by rw [e1];omega,by rw [e1];omega,by rw [e1];omega⟩
theorem ud{S S':au}{D':DS}{s':aD}{vs':List (Int×List Int)}{BU:Int->Int×List Int}(hV:Vw S S' D' s' vs' BU):bH S'=⟨s',S.ep,vs'⟩:=by
 unfold bH;rw [hV.s,hV.ep,hV.vs]
def oY(S S':au)(b:Nat)(kd nn:Int)(zr:List Int)(A:PA):Prop:=
 (er S'.D,bH S',A)=jI (er S.D) (bH S) kd nn zr/\mR S'/\Gd S' (b+200)/\Cn S.D S'.D 200/\(S'.ep=S.ep/\S'.p=S.p/\S'.st=S.st)/\(er S'.D=er S.D\/ak S.D S.ep=0)
theorem MR{w:World}{base:Nat}{S:au}(h:SK w base S)(q:Int):mr S q↔Jr (bH S) q:=by
 unfold mr Jr
 show(2<=q/\q<S.s.ma+S.aB.length)↔(2<=q/\q<S.s.ma+S.vs.length)
 rw [h.cl]
theorem MS(D:DS):Cn D (MI D) 200:=⟨rfl,rfl,by show D.reads+1<=_;omega,by show D.writes<=_;omega,by show D.aA<=_;omega,by show D.ops.length<=_;omega⟩
theorem fg{w w':World}{base:Nat}{S S':au}{b:Nat}(h:SK w base S)(h':SK w' base S')(G:Gd S b)(hc:mR S)(hV:Vw S S' S.D S.s S.vs S.kv)(ha: ∀x∈S'.a.clean,x∈S.a.clean):(er S'.D=er S.D/\bH S'=bH S)/\mR S'/\Gd S' (b+200)/\Cn S.D S'.D 200/\(S'.ep=S.ep/\S'.p=S.p/\S'.st=S.st)/\(er S'.D=er S.D\/ak S.D S.ep=0):=by
 have hf:=G.fit
 rw [h.cl]at hf
 refine⟨⟨by rw [hV.D],(ud hV).trans rfl⟩,qm hc (fun q=>by rw [hV.D]) (by rw [hV.D,hV.ep];exact id) hV.kv ha,ub G hV (Cn.refl _ _) h'.cl hf G.val rfl,by rw [hV.D];exact Cn.refl _ _,⟨hV.ep,hV.p,hV.st⟩,Or.inl (by rw [hV.D])⟩
theorem xG{w w':World}{base:Nat}{S S':au}{b:Nat}{BU:Int->Int×List Int}(h:SK w base S)(h':SK w' base S')(G:Gd S b)(hV:Vw S S' (MI S.D) S.s S.vs BU)(hc:mR S'):(er S'.D=er S.D/\bH S'=bH S)/\mR S'/\Gd S' (b+200)/\Cn S.D S'.D 200/\(S'.ep=S.ep/\S'.p=S.p/\S'.st=S.st)/\(er S'.D=er S.D\/ak S.D S.ep=0):=by
 have hf:=G.fit
 rw [h.cl]at hf
 exact⟨⟨by rw [hV.D];rfl,(ud hV).trans rfl⟩,hc,ub G hV (MS _) h'.cl hf G.val rfl,by rw [hV.D];exact MS _,⟨hV.ep,hV.p,hV.st⟩,Or.inl (by rw [hV.D];rfl)⟩
theorem gu{S S':au}{b:Nat}{kd nn:Int}{zr:List Int}{A A':PA}(z:(er S'.D=er S.D/\bH S'=bH S)/\mR S'/\Gd S' (b+200)/\Cn S.D S'.D 200/\(S'.ep=S.ep/\S'.p=S.p/\S'.st=S.st)/\(er S'.D=er S.D\/ak S.D S.ep=0))(hs:jI (er S.D) (bH S) kd nn zr=(er S.D,bH S,A'))(hA:A=A'):oY S S' b kd nn zr A:=by
 obtain⟨⟨z1,z2⟩,z3⟩:=z
 exact⟨by rw [hs,z1,z2,hA],z3⟩
theorem Js{w w':World}{base:Nat}{S S':au}{b:Nat}{nn E N:Int}{zr rz:List Int}(h:SK w base S)(h':SK w' base S')(G:Gd S b)(hc:mR S)(hA:Gc S nn S' N E rz):oY S S' b 2 nn zr ⟨E,N,rz,sup0⟩:=by
 have hst:jI (er S.D) (bH S) 2 nn zr=(er S.D,bH S,qZ (er S.D) (bH S) nn):=by unfold jI;rw [if_pos rfl]
 have hin:=MR h nn
 rcases hA with⟨hl,hE,hN,hz,hV,ha⟩| ⟨hl,hq,hE,hN,hz,hV,ha⟩| ⟨hl,hq,hv,hE,hp,hV,ha⟩| ⟨hl,hq,hv,hm,hu,hE,hN,hz,hV,ha⟩| ⟨hl,hq,hv,hm,hu,hE,hN,hz,hV,c,ha⟩
 · refine gu (fg h h' G hc hV (by rw [ha];exact fun x hx=>hx)) hst ?_
   subst hE hN hz
   unfold qZ
   rw [if_pos (show ak (er S.D) (bH S).ep≠0 from hl)];rfl
 · refine gu (fg h h' G hc hV (by rw [ha];exact fun x hx=>hx)) hst ?_
   subst hE hN hz
   unfold qZ
   rw [if_neg (show¬ak (er S.D) (bH S).ep≠0 from fun z=>z hl),if_pos (fun z=>hq (hin.2 z))]
 · refine gu (fg h h' G hc hV (by rw [ha];exact ml S.a nn)) hst ?_
   subst hE
   have e1:N=(nG S nn).1:=congrArg Prod.fst hp
   have e2:rz=(nG S nn).2:=congrArg Prod.snd hp
   unfold qZ
   rw [if_neg (show¬ak (er S.D) (bH S).ep≠0 from fun z=>z hl),if_neg (fun z=>z (hin.1 hq))]
   by_cases k:nn<S.s.ma
   · rw [if_pos (show nn<(bH S).s.ma from k)]
     obtain⟨c,hcv⟩:=Option.ne_none_iff_exists'.1 hv
     have hcv0:=hcv
     unfold Ca.AS.val at hcv
     rw [h.hd,qL _ _ _ (Or.inl k)]at hcv
     have hu:=hc hl _ (xq (show Ca.dr S.a.clean nn=some c by simpa using hcv))
     dsimp only at hu
     have hu2:bh nn ((er S.D).aj nn.toNat)=((S.kv nn).1,(S.kv nn).2,0):=hu
     rw [hu2,if_neg (fun z=>z rfl),e1,e2,show nG S nn=S.kv nn from if_pos k]
   · rw [if_neg (show¬nn<(bH S).s.ma from k),e1,e2,show nG S nn=S.vs.getD (nn-S.s.ma).toNat (0,[])from if_neg k];rfl
 · refine gu (xG h h' G hV (qm hc (fun q=>by rw [hV.D];rfl) (by rw [hV.D,hV.ep];exact id) hV.kv (by rw [ha];exact ml S.a nn))) hst ?_
   subst hE hN hz
   unfold qZ
   rw [if_neg (show¬ak (er S.D) (bH S).ep≠0 from fun z=>z hl),if_neg (fun z=>z (hin.1 hq)),if_pos (show nn<(bH S).s.ma from hm),if_pos (show(bh nn ((er S.D).aj nn.toNat)).2.2≠0 from hu)]
 · have hu1:bh nn (S.D.aj nn.toNat)=(N,rz,0):=by
     show ng S nn=_
     rw [hN,hz,<-hu]
   refine gu (xG h h' G hV ?_) hst ?_
   · intro l x hx
     obtain⟨g1,g2,g3⟩:=get_none hv
     rw [ha]at hx
     rw [hV.D,hV.kv]
     show bh x.1 (S.D.aj x.1.toNat)=_
     rcases(zx (c:=c) g1).1 x hx with e| ⟨e1,e2⟩
     · rw [e]
       show bh nn (S.D.aj nn.toNat)=((if nn=nn then(N,rz)else _).1,(if nn=nn then(N,rz)else _).2,0)
       rw [if_pos rfl];exact hu1
     · show _=((if x.1=nn then(N,rz)else S.kv x.1).1,(if x.1=nn then(N,rz)else S.kv x.1).2,0)
       rw [if_neg e2]
       exact hc hl x (by rw [g2]at e1;exact e1)
   · subst hE
     unfold qZ
     have hu2:bh nn ((er S.D).aj nn.toNat)=(N,rz,0):=hu1
     rw [if_neg (show¬ak (er S.D) (bH S).ep≠0 from fun z=>z hl),if_neg (fun z=>z (hin.1 hq)),if_pos (show nn<(bH S).s.ma from hm),hu2,if_neg (fun z=>z rfl)]
theorem Gl{w w':World}{base:Nat}{S S':au}{b:Nat}{nn E N:Int}{zr:List Int}(h:SK w base S)(h':SK w' base S')(G:Gd S b)(hc:mR S)(hA:nH S nn (zr.take 300) S' N E):oY S S' b 3 nn zr ⟨E,N,[],sup0⟩:=by
 have hst:jI (er S.D) (bH S) 3 nn zr=(er S.D,tJ (er S.D) (bH S) nn (zr.take 300)):=by unfold jI;rw [if_neg (by decide),if_pos rfl]
 have gH:=h.cl
 have hf:=G.fit
 rcases hA with⟨hl,hE,hN,hV,ha⟩| ⟨hl,hq,hE,hN,hV,ha⟩| ⟨hl,hk,hz,hp,hE,hN,hV,c,ha⟩
 · refine gu (fg h h' G hc hV (by rw [ha];exact fun x hx=>hx)) (hst.trans ?_) rfl
   subst hE hN
   unfold tJ
   rw [if_pos (show ak (er S.D) (bH S).ep≠0 from hl)];rfl
 · refine gu (fg h h' G hc hV (by rw [ha];exact fun x hx=>hx)) (hst.trans ?_) rfl
   subst hE hN
   unfold tJ
   rw [if_neg (show¬ak (er S.D) (bH S).ep≠0 from fun z=>z hl)]
   by_cases k1:nn<1\/3<nn
   · rw [if_pos k1,if_pos k1]
   · rw [if_neg k1,if_neg k1]
     by_cases k2:246<(zr.take 300).length
     · rw [if_pos k2,if_pos k2]
     · rw [if_neg k2,if_neg k2,if_pos]
       rcases hq with q| q| q
       · exact absurd q k1
       · exact absurd q k2
       · show S.s.ma+(S.vs.length:Int)=_
         rw [<-gH];exact q
 · refine⟨?_,qm hc (fun q=>by rw [hV.D]) (by rw [hV.D,hV.ep];exact id) hV.kv (by rw [ha];exact fun x hx=>hx),ub G hV (Cn.refl _ _) h'.cl ?_ G.val rfl,by rw [hV.D];exact Cn.refl _ _,⟨hV.ep,hV.p,hV.st⟩,Or.inl (by rw [hV.D])⟩
   · rw [hst,hV.D,ud hV]
     unfold tJ
     rw [if_neg (show¬ak (er S.D) (bH S).ep≠0 from fun z=>z hl),if_neg (by omega),if_neg (by omega),if_neg (by show¬S.s.ma+(S.vs.length:Int)=_;rw [<-gH];exact hp),hE,hN,gH]
     rfl
   · rw [List.length_append];show S.s.ma+((S.vs.length+1:Nat):Int)<=_;omega
theorem DJ{w w':World}{base:Nat}{S S':au}{b:Nat}{nn E:Int}{zr:List Int}(h:SK w base S)(h':SK w' base S')(G:Gd S b)(hc:mR S)(hA:yx S nn S' E):oY S S' b 4 nn zr ⟨E,0,[],sup0⟩:=by
 have hst:jI (er S.D) (bH S) 4 nn zr=(er S.D,ql (er S.D) (bH S) nn):=by unfold jI;rw [if_neg (by decide),if_neg (by decide),if_pos rfl]
 have gH:=h.cl
 have hf:=G.fit
 rcases hA with⟨hl,hE,hV,ha⟩| ⟨hl,hq,hE,hV,ha⟩| ⟨hl,hq,hE,hV,ha⟩
 · refine gu (fg h h' G hc hV (by rw [ha];exact fun x hx=>hx)) (hst.trans ?_) rfl
   subst hE
   unfold ql
   rw [if_pos (show ak (er S.D) (bH S).ep≠0 from hl)];rfl
 · refine gu (fg h h' G hc hV (by rw [ha];exact fun x hx=>hx)) (hst.trans ?_) rfl
   subst hE
   unfold ql
   rw [if_neg (show¬ak (er S.D) (bH S).ep≠0 from fun z=>z hl),if_pos]
   show nn<S.s.ma\/S.s.ma+(S.vs.length:Int)<nn
   rw [<-gH];exact hq
 · refine⟨?_,qm hc (fun q=>by rw [hV.D]) (by rw [hV.D,hV.ep];exact id) hV.kv (by rw [ha];exact fun x hx=>hx),ub G hV (Cn.refl _ _) h'.cl ?_ G.val rfl,by rw [hV.D];exact Cn.refl _ _,⟨hV.ep,hV.p,hV.st⟩,Or.inl (by rw [hV.D])⟩
   · rw [hst,hV.D,ud hV]
     unfold ql
     rw [if_neg (show¬ak (er S.D) (bH S).ep≠0 from fun z=>z hl),if_neg (by show¬(nn<S.s.ma\/S.s.ma+(S.vs.length:Int)<nn);rw [<-gH];omega),hE]
     rfl
   · rw [List.length_take];omega
theorem SK.good{w:World}{base:Nat}{S:au}(h:SK w base S): ∀v∈S.vs,(1<=v.1/\v.1<=3)/\v.2.length<=246/\aS v.2:=fun v hv=>by
 obtain⟨j,hj,e⟩:=List.getElem_of_mem hv
 have c:=h.cv j (by rw [h.cl];exact hj)
 rw [show S.vs.getD j (0,[])=v by rw [<-e];simp [List.getD,hj]]at c
 exact⟨c.kk,c.le,c.by8⟩
theorem vA{w:World}{base:Nat}{S:au}{b:Nat}(h:SK w base S)(G:Gd S b)(hd:Int)(hh:hd=0\/mr S hd)(hge:S.s.ge≠1099511627776):aJ (fu S hd)=true:=by
 obtain⟨v1,v2,v3,v4,v5,v6,v7,v8,v9⟩:=(dg _).1 G.val
 have:=G.pg
 have:=G.fit
 have:=h.cl
 rw [dg]
 refine⟨v1,v2,by show 0<=S.s.ge+1;omega,by show S.s.ge+1<=_;omega,v5,v6,by show 2<=S.s.ma+(S.vs.length:Int);omega,by show S.s.ma+(S.vs.length:Int)<=S.s.pg;omega,?_⟩
 rcases hh with q| ⟨q1,q2⟩
 · exact Or.inl q
 · exact Or.inr ⟨q1,by show hd<S.s.ma+(S.vs.length:Int);omega⟩
theorem yB{w:World}{base:Nat}{S:au}{b:Nat}(h:SK w base S)(G:Gd S b)(hb:b<=1000000000)(l:List (Int×List Int))(hl: ∀v∈l,v∈S.vs)(hn:l.length<=S.vs.length):cC (bW S.D S.s.ma.toNat l)/\(bW S.D S.s.ma.toNat l).np=S.D.np/\(bW S.D S.s.ma.toNat l).ag=S.D.ag/\(bW S.D S.s.ma.toNat l).reads=S.D.reads/\(bW S.D S.s.ma.toNat l).aA=S.D.aA/\(bW S.D S.s.ma.toNat l).writes=S.D.writes+l.length/\(bW S.D S.s.ma.toNat l).ops.length=S.D.ops.length+l.length/\l.length<=64:=by
 obtain⟨g1,g2,g3,g4,g5⟩:=G.bd
 have hf:=G.fit
 have gH:=h.cl
 have g6:=G.ops
 have g7:=G.wr
 have gI:=G.np
 obtain⟨q1,q2⟩:=yu l S.D S.s.ma.toNat h.da.ok (fun v hv=>h.good v (hl v hv)) (by omega) (by omega) (by omega)
 obtain⟨a1,a2,a3,a4,a5⟩:=mq l S.D S.s.ma.toNat
 exact⟨q1,q2,a1,a2,a3,a4,a5,by omega⟩
theorem Jt{w:World}{base:Nat}{S:au}{b:Nat}(h:SK w base S)(G:Gd S b)(hb:b<=1000000000)(hd:Int)(hh:hd=0\/mr S hd)(hge:S.s.ge≠1099511627776):Cn S.D (gO S hd).1 200:=by
 have g8:=G.sy
 have g6:=G.ops
 have g7:=G.wr
 unfold gO
 split
 · rename_i hl
   obtain⟨q1,q2,q3,q4,q5,q6,q7,q8⟩:=yB h G hb S.vs (fun v hv=>hv) (Nat.le_refl _)
   obtain⟨k,hk⟩: ∃k:Nat,(fu S hd).ge%2=(k:Int):=⟨((fu S hd).ge%2).toNat,by omega⟩
   have P:=yt q1 (gP hl) ⟨gP hl,by rw [q7];omega,by rw [q6];omega,by rw [q5];omega⟩ (fu S hd) (vA h G hd hh hge) k hk
   have p1:=P.np
   have p2:=P.ag
   have p3:=P.reads
   have p4:=P.writes
   have p5:=P.aA
   have p6:=P.ops
   exact⟨p1.trans q2,p2.trans q3,by rw [p3,q4];omega,by rw [q6]at p4;omega,by rw [q5]at p5;omega,by rw [q7]at p6;omega⟩
 · obtain⟨q1,q2,q3,q4,q5,q6,q7,q8⟩:=yB h G hb (S.vs.take S.D.armed.toNat) (fun v hv=>List.mem_of_mem_take hv) (by rw [List.length_take];omega)
   exact⟨q2,q3,by rw [q4];omega,by rw [q6];omega,by rw [q5];omega,by rw [q7];omega⟩
theorem Gm{w w':World}{base:Nat}{S S':au}{b:Nat}{nn E:Int}{zr:List Int}(h:SK w base S)(h':SK w' base S')(G:Gd S b)(hb:b<=1000000000)(hc:mR S)(hA:qd S nn S' E):oY S S' b 5 nn zr ⟨E,0,[],sup0⟩:=by
 have hst:jI (er S.D) (bH S) 5 nn zr=oa (er S.D) (bH S) nn:=by unfold jI;rw [if_neg (by decide),if_neg (by decide),if_neg (by decide),if_pos rfl]
 have gH:=h.cl
 have hf:=G.fit
 have hin:=MR h nn
 have TF:=Oe S.D (bH S) nn
 obtain⟨g1,g2,g3,g4,g5⟩:=G.bd
 rcases hA with⟨hl,hE,hV,ha⟩| ⟨hl,hq,hE,hV,ha⟩| ⟨hl,hq,hge,hE,hV,ha⟩| ⟨hl,hq,hge,hE,h0,hV,ha⟩| ⟨hl,hq,hge,hE,h0,hV,ha⟩
 · refine gu (fg h h' G hc hV (by rw [ha];exact fun x hx=>hx)) (hst.trans ?_) rfl
   subst hE
   unfold oa
   rw [if_pos (show ak (er S.D) (bH S).ep≠0 from hl)];rfl
 · refine gu (fg h h' G hc hV (by rw [ha];exact fun x hx=>hx)) (hst.trans ?_) rfl
   subst hE
   unfold oa
   rw [if_neg (show¬ak (er S.D) (bH S).ep≠0 from fun z=>z hl),if_pos ⟨hq.1,fun z=>hq.2 (hin.2 z)⟩]
 · refine gu (fg h h' G hc hV (by rw [ha];exact fun x hx=>hx)) (hst.trans ?_) rfl
   subst hE
   unfold oa
   rw [if_neg (show¬ak (er S.D) (bH S).ep≠0 from fun z=>z hl),if_neg (fun z=>hq.elim z.1 (fun y=>z.2 (hin.1 y))),if_pos (show(bH S).s.ge=1099511627776 from hge)]
 · have xm:=Jt h G hb nn hq hge
   have Sg:ak (gO S nn).1 S.ep≠0:=fun z=>by
     have cM:=gP z
     rw [hE]at h0
     revert cM h0
     unfold gO
     split
     · rename_i hl2
       intro h0 cM
       obtain⟨q1,q2,q3,q4,q5,q6,q7,q8⟩:=yB h G hb S.vs (fun v hv=>hv) (Nat.le_refl _)
       obtain⟨k,hk⟩: ∃k:Nat,(fu S nn).ge%2=(k:Int):=⟨((fu S nn).ge%2).toNat,by omega⟩
       have:=G.ops
       have:=G.wr
       have:=G.sy
       have P:=yt q1 (gP hl2) ⟨gP hl2,by rw [q7];omega,by rw [q6];omega,by rw [q5];omega⟩ (fu S nn) (vA h G nn hq hge) k hk
       have:=(P.bad (P.two.resolve_left h0)).1
       rw [this]at cM;cases cM
     · rename_i hl2
       intro h0 cM
       apply hl2
       have ha0:=h.da.ok.armed.1
       by_cases z:S.D.armed=0
       · have e:=yw S.vs S.D S.s.ma.toNat z
         unfold ak
         rw [(mq S.vs S.D S.s.ma.toNat).1,if_neg (by have:=(jg hl).1;exact fun y=>y this),e.2,if_pos (gP hl)]
       · by_cases y:S.D.armed<=S.vs.length
         · have:=oO (S.vs.take S.D.armed.toNat) S.D S.s.ma.toNat (by omega) (by rw [List.length_take];omega)
           rw [this]at cM;cases cM
         · have e:=ve S.vs S.D S.s.ma.toNat (by omega)
           unfold ak
           rw [e.2.2.1,if_neg (by have:=(jg hl).1;exact fun y=>y this),e.2.1,if_pos (gP hl)]
   refine⟨?_,fun l=>absurd (by rw [hV.D,hV.ep]at l;exact l) Sg,ub G hV xm h'.cl (by rw [<-gH];exact hf) G.val rfl,by rw [hV.D];exact xm,⟨hV.ep,hV.p,hV.st⟩,Or.inr hl⟩
   rw [hst,hV.D,ud hV]
   unfold oa
   rw [if_neg (show¬ak (er S.D) (bH S).ep≠0 from fun z=>z hl),if_neg (fun z=>hq.elim z.1 (fun y=>z.2 (hin.1 y))),if_neg (show¬(bH S).s.ge=1099511627776 from hge),TF,if_pos (show(pM S.D (bH S) nn).2≠0 from fun z=>h0 (hE.trans z)),hE]
   rfl
 · have xm:=Jt h G hb nn hq hge
   have hE2:(gO S nn).2=0:=hE.symm.trans h0
   have hl2:ak (bW S.D S.s.ma.toNat S.vs) S.ep=0:=by
     by_cases z:ak (bW S.D S.s.ma.toNat S.vs) S.ep=0
     · exact z
     · unfold gO at hE2
       rw [if_neg z]at hE2
       exact absurd hE2 (show¬((2:Int)=0) by decide)
   have eY:(⟨S.s.wd,S.s.ge+1,((S.s.ma.toNat+S.vs.length:Nat):Int),nn,S.s.pg⟩:aD)=fu S nn:=by
     unfold fu
     rw [show((S.s.ma.toNat+S.vs.length:Nat):Int)=S.s.ma+S.vs.length by push_cast;omega]
   have Wh:xj S S.s.ma.toNat nn 0 (gO S nn).1 (fu S nn):=Or.inr ⟨hl2,by
     rw [eY]
     unfold gO at hE2
     rw [if_pos hl2]at hE2
     exact hE2.symm,by
     rw [eY]
     unfold gO
     rw [if_pos hl2],by rw [if_pos rfl,eY]⟩
   have hval:=vA h G nn hq hge
   have g6:=G.ops
   have g7:=G.wr
   have g8:=G.sy
   obtain⟨_,hB⟩:=IW Wh h.da.ok h.good (by omega) (by omega) (by omega) (by omega) (by omega) g4 (by rw [eY];exact hval)
   have gI:=G.np
   refine⟨?_,?_,ub G hV xm h'.cl (by show(fu S nn).ma+((0:Nat):Int)<=_;show S.s.ma+(S.vs.length:Int)+_<=_;omega) hval rfl,by rw [hV.D];exact xm,⟨hV.ep,hV.p,hV.st⟩,Or.inr hl⟩
   · rw [hst,hV.D,ud hV]
     unfold oa
     rw [if_neg (show¬ak (er S.D) (bH S).ep≠0 from fun z=>z hl),if_neg (fun z=>hq.elim z.1 (fun y=>z.2 (hin.1 y))),if_neg (show¬(bH S).s.ge=1099511627776 from hge),TF,if_neg (show¬(pM S.D (bH S) nn).2≠0 from fun z=>z hE2),h0]
     rfl
   · intro l x hx
     rw [ha]at hx
     rw [hV.D,hV.kv]
     show bh x.1 ((gO S nn).1.aj x.1.toNat)=((if S.s.ma<=x.1/\x.1<S.s.ma+S.vs.length then S.vs.getD (x.1-S.s.ma).toNat (0,[])else S.kv x.1).1,(if S.s.ma<=x.1/\x.1<S.s.ma+S.vs.length then S.vs.getD (x.1-S.s.ma).toNat (0,[])else S.kv x.1).2,0)
     rcases Gk hx with z| z
     · rw [h.hd]at z
       obtain⟨j,hj,rfl⟩:=tq _ _ _ z
       have hj2:j<S.vs.length:=gH▸hj
       have cv:=h.cv j hj
       show bh (S.s.ma+(j:Int)) ((gO S nn).1.aj (S.s.ma+(j:Int)).toNat)=_
       have e:S.s.ma+(j:Int)=((S.s.ma.toNat+j:Nat):Int):=by push_cast;omega
       rw [if_pos ⟨by show S.s.ma<=S.s.ma+(j:Int);omega,by show S.s.ma+(j:Int)<_;omega⟩,show(S.s.ma+(j:Int)-S.s.ma).toNat=j by omega,e,Int.toNat_natCast,hB.new j hj2,CY _ _ _ _ ((gQ _).2 cv.kk) ((lN _).2 ⟨by omega,by omega⟩) cv.le cv.by8,if_pos rfl]
     · obtain⟨v,c1,c2,c3,c4⟩:=h.ck x z
       rw [if_neg (by omega),hB.old x.1.toNat (by omega) (by omega)]
       exact hc hl x z
theorem Ll{w w':World}{base:Nat}{S S':au}{b:Nat}{kd nn E N:Int}{zr rz:List Int}{s:aD}{t:List Int}(h:SK w base S)(h':SK w' base S')(G:Gd S b)(hb:b<=1000000000)(hc:mR S)(hA:Qz kd nn zr S S' E N rz s t):oY S S' b kd nn zr ⟨E,N,rz,s⟩:=by
 rcases hA with⟨rfl,hX,rfl,_⟩| ⟨rfl,hX,rfl,rfl,_⟩| ⟨rfl,hX,rfl,rfl,rfl,_⟩| ⟨rfl,hX,rfl,rfl,rfl,_⟩| ⟨hk,rfl,rfl,rfl,rfl,rfl,_⟩
 · exact Js h h' G hc hX
 · exact Gl h h' G hc hX
 · exact DJ h h' G hc hX
 · exact Gm h h' G hb hc hX
 · refine gu (fg h h' G hc (Vw.same G) (fun x hx=>hx)) ?_ rfl
   unfold jI
   rw [if_neg (by omega),if_neg (by omega),if_neg (by omega),if_neg (by omega),show(bH S').vs.length=S'.aB.length from h.cl.symm]
   have e1:ak (er S'.D) (bH S').ep=ak S'.D S'.ep:=rfl
   have e2:(er S'.D).np=S'.D.np:=rfl
   have e3:(bH S').s=S'.s:=rfl
   rw [e1,e2,e3]
def eC(S:au):List Nat:=S.g::S.st::(S.FC++(S.lb++S.sv.ownBlock.toList))
theorem kK(S:au)(k:Nat):k∈eC S↔(k=S.g\/k=S.st\/k∈S.FC\/k∈S.lb\/S.sv.ownBlock=some k):=by
 simp only [eC,List.mem_cons,List.mem_append,Option.mem_toList]
theorem ib(S:au)(k:Nat):k∈S.fp↔(k∈eC S\/k∈S.F):=by
 rw [kK,au.mem]
 constructor
 · rintro(e| e| e| e| e| e)<;>simp [e]
 · rintro((e| e| e| e| e)| e)<;>simp [e]
theorem SK.Ey{w:World}{base:Nat}{S:au}(h:SK w base S):eQ (eC S) S.F:=fun k hk q=>by
 rcases(kK S k).1 hk with e| e| e| e| e
 · exact h.kE.1 (e▸q)
 · exact h.ct.2.1 (e▸q)
 · exact h.a1 k q e
 · exact h.a2 k q e
 · exact(h.dE e).2.2.1 q
theorem SK.Ju{w w':World}{base:Nat}{S:au}(h:SK w base S){F':List Nat}{D':DS}(hD:DA w' base F' S.p D')(hk: ∀k∈eC S,w'.heap[k]? =w.heap[k]?)(ha:eQ (eC S) F'):SK w' base {S with F:=F',D:=D'}:=by
 have hm: ∀k,(k=S.g\/k=S.st\/k∈S.FC\/k∈S.lb\/S.sv.ownBlock=some k)->w'.heap[k]? =w.heap[k]? :=fun k q=>hk k ((kK S k).2 q)
 have hl: ∀k∈S.lb,w'.heap[k]? =w.heap[k]? :=fun k q=>hm k (by simp [q])
 refine⟨hD,(hm S.g (by simp)).trans h.fk,?_,(hm S.st (by simp)).trans h.sk,cZ h.so fun k e=>hm k (by simp [e]),fun k q=>⟨(h.lb k q).1,?_⟩,h.cl,fun j hj=>(h.cv j hj).to (fun k q=>q) hl,fun x hx=>?_,h.hd,fun k hk q=>ha k ((kK S k).2 (by simp [show k∈S.FC from q])) hk,fun k hk q=>ha k ((kK S k).2 (by simp [show k∈S.lb from q])) hk,h.a3,h.bg,h.bs,h.bp⟩
 · obtain⟨m,n,s,L,e,c,r⟩:=h.ca
   exact⟨m,n,s,L,e,c.of_heap fun i hi=>hm i (by rw [e];simp [hi]),r⟩
 · obtain⟨cs,hc⟩:=(h.lb k q).2
   exact⟨cs,(hl k q).trans hc⟩
 · obtain⟨v,h1,h2⟩:=h.ck x hx
   exact⟨v,h1.to (fun k q=>q) hl,h2⟩
def dt(w:World)(base:Nat)(t:TypeId)(v:Value)(vs:List Value):Prop:=w.ownsRow base t 1 v vs.length vs
theorem dt.of_heap{w w1:World}{base:Nat}{t:TypeId}{v:Value}{vs:List Value}(h:dt w base t v vs)(hk: ∀k,v.ownBlock=some k->w1.heap[k]? =w.heap[k]?):dt w1 base t v vs:=cZ h hk
theorem WO.Lm{w:World}{base:Nat}{W:Wr}{c:Nat}(h:WO w base W c){F:List Nat}{p:Nat}{D:DS}(hd:DA w base F p D)(hr: ∀k,W.room.ownBlock=some k->k∉F){k:Nat}(hk:k∈W.fp):k∉F:=by
 obtain⟨_,_,⟨cs,t,a,b⟩| e⟩:=h.ty hk
 · exact hd.cS a (by rcases b with r| r| r<;>rw [r]<;>decide) (by rcases b with r| r| r<;>rw [r]<;>decide) (by rcases b with r| r| r<;>rw [r]<;>decide)
 · exact hr k e
structure WD where
 W:Wr
 pd:Nat->Nat
 Fd:Nat->List Nat
 Dd:Nat->DS
 n:Nat
 ix:Nat->Nat
 so:Nat->au
structure DB (D:DS) (b:Nat):Prop where
 rd:D.reads<=b
 wr:D.writes<=b
 sy:D.aA<=b
 ep:D.ag<=b
 op:D.ops.length<=b
 np:D.np<=64
theorem DB.cn{D D':DS}{b:Nat}(h:DB D b)(c:Cn D D' 200):DB D' (b+200):=by
 have h1:=h.rd;have h2:=h.wr;have h3:=h.sy;have h4:=h.ep;have h5:=h.op;have h6:=h.np
 have c1:=c.rd;have c2:=c.wr;have c3:=c.sy;have c4:=c.ep;have c5:=c.op;have c6:=c.np
 exact⟨by omega,by omega,by omega,by omega,by omega,by omega⟩
structure SI (w:World) (base:Nat) (X:WD) (b:Nat) (k:Nat):Prop where
 ix:X.ix k<2
 sk:SK w base (X.so k)
 F:(X.so k).F=X.Fd (X.ix k)
 p:(X.so k).p=X.pd (X.ix k)
 D:(X.so k).D=X.Dd (X.ix k)
 gd:Gd (X.so k) b
 co:mR (X.so k)
 ep:(X.so k).ep<=(X.Dd (X.ix k)).ag
structure WI (w:World) (base:Nat) (X:WD) (b c:Nat):Prop where
 wo:WO w base X.W c
 dk: ∀i,i<2->DA w base (X.Fd i) (X.pd i) (X.Dd i)
 dm: ∀i,i<2->DB (X.Dd i) b
 df: ∀i j,i<2->j<2->i≠j->eQ (X.Fd i) (X.Fd j)
 st: ∀k,k<X.n->SI w base X b k
 sp: ∀j k,j<X.n->k<X.n->j≠k->eQ (eC (X.so j)) (eC (X.so k))
 se: ∀j k,j<X.n->k<X.n->j≠k->X.ix j=X.ix k->(X.so j).ep≠(X.so k).ep
 sd: ∀k,k<X.n-> ∀i,i<2->eQ (eC (X.so k)) (X.Fd i)
 rd: ∀k,X.W.room.ownBlock=some k-> ∀i,i<2->k∉X.Fd i
 rs: ∀k,X.W.room.ownBlock=some k-> ∀j,j<X.n->k∉eC (X.so j)
 dl:dt w base 50 X.W.dl [.pointer (some ⟨X.pd 0,0,none⟩), .pointer (some ⟨X.pd 1,0,none⟩)]
 tl:dt w base 60 X.W.tl ((List.range X.n).map fun k=> .pointer (some ⟨(X.so k).st,0,none⟩))
 nn:X.n<=c
theorem WI.TG{w:World}{base:Nat}{X:WD}{b c:Nat}(h:WI w base X b c){k:Nat}(hk:k<X.n):gK X.W (X.so k):=fun q e z=>by
 rcases(ib _ _).1 z with y| y
 · exact h.rs q e k hk y
 · rw [(h.st k hk).F]at y
   exact h.rd q e _ (h.st k hk).ix y
def WD.fp(X:WD):List Nat:=X.W.fp++(X.W.dl.ownBlock.toList++(X.W.tl.ownBlock.toList++(X.Fd 0++(X.Fd 1++(List.range X.n).flatMap fun k=>eC (X.so k)))))
theorem WD.mem(X:WD)(k:Nat):k∈X.fp↔(k∈X.W.fp\/X.W.dl.ownBlock=some k\/X.W.tl.ownBlock=some k\/k∈X.Fd 0\/k∈X.Fd 1\/ ∃j,j<X.n/\k∈eC (X.so j)):=by
 simp only [WD.fp,List.mem_append,Option.mem_toList,List.mem_flatMap,List.mem_range]
theorem dt.ty{w:World}{base:Nat}{t:TypeId}{v:Value}{vs:List Value}(h:dt w base t v vs){k:Nat}(e:v.ownBlock=some k):base<=k/\ ∃cs,w.heap[k]? =some (.cells cs t (0,0)):=by
 obtain⟨h1,cur,h2⟩:=aH h k e;exact⟨h1,cur,h2⟩
theorem WI.lt{w:World}{base:Nat}{X:WD}{b c:Nat}(h:WI w base X b c){k:Nat}(hk:k∈X.fp):base<=k/\k<w.heap.size:=by
 rcases(X.mem k).1 hk with e| e| e| e| e| ⟨j,hj,e⟩
 · exact⟨(h.wo.ty e).1,(h.wo.ty e).2.1⟩
 · obtain⟨a1,cs,a2⟩:=h.dl.ty e;exact⟨a1,aC a2⟩
 · obtain⟨a1,cs,a2⟩:=h.tl.ty e;exact⟨a1,aC a2⟩
 · exact(h.dk 0 (by decide)).lt k e
 · exact(h.dk 1 (by decide)).lt k e
 · exact(h.st j hj).sk.cF ((ib _ _).2 (Or.inl e))
theorem WI.of_heap{w w1:World}{base:Nat}{X:WD}{b c:Nat}(h:WI w base X b c)(hk: ∀k∈X.fp,w1.heap[k]? =w.heap[k]?)(hs:w.heap.size<=w1.heap.size):WI w1 base X b c:=by
 have hF: ∀i,i<2-> ∀k∈X.Fd i,w1.heap[k]? =w.heap[k]? :=fun i hi k q=>hk k ((X.mem k).2 (by
   rcases(show i=0\/i=1 by omega)with e| e<;>subst e<;>simp [q]))
 have hO: ∀j,j<X.n-> ∀k∈eC (X.so j),w1.heap[k]? =w.heap[k]? :=fun j hj k q=>hk k ((X.mem k).2 (Or.inr (Or.inr (Or.inr (Or.inr (Or.inr ⟨j,hj,q⟩))))))
 refine⟨h.wo.keep fun k q=>hk k ((X.mem k).2 (Or.inl q)),fun i hi=>(h.dk i hi).of_heap (hF i hi),h.dm,h.df,fun j hj=>?_,h.sp,h.se,h.sd,h.rd,h.rs,h.dl.of_heap fun k e=>hk k ((X.mem k).2 (by simp [e])),h.tl.of_heap fun k e=>hk k ((X.mem k).2 (by simp [e])),h.nn⟩
 have hj2:=h.st j hj
 exact⟨hj2.ix,hj2.sk.lh (fun k q=>by
   rcases(ib _ _).1 q with z| z
   · exact hO j hj k z
   · exact hF _ hj2.ix k (hj2.F▸z)) hs,hj2.F,hj2.p,hj2.D,hj2.gd,hj2.co,hj2.ep⟩
theorem WI.below{w w1:World}{base:Nat}{X:WD}{b c:Nat}(h:WI w base X b c)(hb:Below w.heap.size w w1):WI w1 base X b c:=h.of_heap (fun k q=>hb.block k (h.lt q).2) hb.size
theorem WI.fr{w w1:World}{base:Nat}{X:WD}{b c:Nat}(h:WI w base X b c){G:List Nat}(hf:Fr G w w1)(ha:eQ X.fp G):WI w1 base X b c:=h.of_heap (fun k q=>hf.block k (h.lt q).2 (ha k q)) hf.size
theorem Gd.more{S:au}{b:Nat}(h:Gd S b)(d:Nat)(hd:b<=d):Gd S d:=by
 have h1:=h.N;have h2:=h.rd;have h3:=h.wr;have h4:=h.sy;have h5:=h.ops
 exact⟨h.nx,h.fit,h.np,h.val,h.pg,by omega,by omega,by omega,by omega,by omega⟩
theorem DB.more{D:DS}{b:Nat}(h:DB D b)(d:Nat)(hd:b<=d):DB D d:=by
 have h1:=h.rd;have h2:=h.wr;have h3:=h.sy;have h4:=h.ep;have h5:=h.op
 exact⟨by omega,by omega,by omega,by omega,by omega,h.np⟩
theorem WI.more{w:World}{base:Nat}{X:WD}{b c:Nat}(h:WI w base X b c)(d e:Nat)(hd:b<=d)(he:c<=e):WI w base X d e:=
 ⟨h.wo.more _ he,h.dk,fun i hi=>(h.dm i hi).more d hd,h.df,fun k hk=>by have q:=h.st k hk;exact⟨q.ix,q.sk,q.F,q.p,q.D,q.gd.more d hd,q.co,q.ep⟩,h.sp,h.se,h.sd,h.rd,h.rs,h.dl,h.tl,Nat.le_trans h.nn he⟩
theorem SK.jt{w:World}{base:Nat}{S:au}(h:SK w base S){k:Nat}{cs:Array Value}{t:TypeId}(hc:w.heap[k]? =some (.cells cs t (0,0)))(ht:t=50\/t=60):k∉S.fp:=by
 intro hk
 rcases(au.mem S k).1 hk with e| e| e| e| e| e
 · subst e;exact cL hc h.fk (by rcases ht with r| r<;>rw [r]<;>decide) rfl
 · subst e;exact cL hc h.sk (by rcases ht with r| r<;>rw [r]<;>decide) rfl
 · exact h.da.cS hc (by rcases ht with r| r<;>rw [r]<;>decide) (by rcases ht with r| r<;>rw [r]<;>decide) (by rcases ht with r| r<;>rw [r]<;>decide) e
 · exact h.ca.cS hc (by rcases ht with r| r<;>rw [r]<;>decide) (by rcases ht with r| r<;>rw [r]<;>decide) e
 · obtain⟨_,cs2,hc2⟩:=h.lb k e
   exact cL hc hc2 (by rcases ht with r| r<;>rw [r]<;>decide) rfl
 · obtain⟨_,cs2,hc2⟩:=h.Aj e
   exact cL hc hc2 (by rcases ht with r| r<;>rw [r]<;>decide) rfl
theorem WO.jt{w:World}{base:Nat}{W:Wr}{c:Nat}(h:WO w base W c){k:Nat}{cs:Array Value}{t:TypeId}(hc:w.heap[k]? =some (.cells cs t (0,0)))(ht:t=50\/t=60):k∉W.fp:=fun hk=>by
 obtain⟨_,_,⟨cs2,t2,a,b⟩| e⟩:=h.ty hk
 · exact cL hc a (by rcases ht with r| r<;>rcases b with q| q| q<;>rw [r,q]<;>decide) rfl
 · obtain⟨_,cs2,a⟩:=aH h.rm _ e
   exact cL hc a (by rcases ht with r| r<;>rw [r]<;>decide) rfl
def WD.step(X:WD)(k:Nat)(S':au)(W':Wr):WD:=
 {W:=W',pd:=X.pd,Fd:=fun a=>if a=X.ix k then S'.F else X.Fd a,Dd:=fun a=>if a=X.ix k then S'.D else X.Dd a,n:=X.n,ix:=X.ix,so:=fun j=>if j=k then S' else if X.ix j=X.ix k then{X.so j with F:=S'.F,D:=S'.D}else X.so j}
theorem Og(X:WD)(k:Nat)(S':au)(W':Wr)(hs:S'.st=(X.so k).st)(j:Nat):((X.step k S' W').so j).st=(X.so j).st:=by
 show(if j=k then S' else if X.ix j=X.ix k then{X.so j with F:=S'.F,D:=S'.D}else X.so j).st=_
 by_cases q:j=k
 · rw [if_pos q,hs,q]
 · rw [if_neg q]
   by_cases z:X.ix j=X.ix k
   · rw [if_pos z]
   · rw [if_neg z]
theorem WI.one{w w':World}{base:Nat}{X:WD}{b c:Nat}(h:WI w base X b c){k:Nat}(hk:k<X.n){kd nn:Int}{zr:List Int}{S':au}{W':Wr}{A:PA}(hT:oY (X.so k) S' b kd nn zr A)(hS:SK w' base S')(hW:WO w' base W' (c+1))(hr:gK W' S')(hg:W'.g=X.W.g/\W'.dl=X.W.dl/\W'.tl=X.W.tl)(hF:Fr ((X.so k).fp++X.W.fp) w w')(hG1:Gr w (X.so k).fp S'.fp)(hG2:Gr w X.W.fp W'.fp):
   WI w' base (X.step k S' W') (b+200) (c+1)/\Gr w X.fp (X.step k S' W').fp:=by
 obtain⟨t1,t2,t3,t4,⟨t5,t6,t7⟩,t8⟩:=hT
 have sk:=h.st k hk
 have hi:=sk.ix
 have keep: ∀q,q<w.heap.size->q∉(X.so k).fp->q∉X.W.fp->w'.heap[q]? =w.heap[q]? :=fun q a b1 b2=>hF.block q a (fun z=>(List.mem_append.1 z).elim b1 b2)
 have Iw: ∀q,q∈(X.so k).fp->q∈eC (X.so k)\/q∈X.Fd (X.ix k):=fun q z=>((ib _ _).1 z).imp id (fun y=>sk.F▸y)
 have QK: ∀j,j<X.n->j≠k-> ∀q∈eC (X.so j),q∉(X.so k).fp:=fun j hj hn q hq z=>by
   rcases Iw q z with y| y
   · exact h.sp j k hj hk hn q hq y
   · exact h.sd j hj _ hi q hq y
 have QL: ∀j,j<X.n-> ∀q∈eC (X.so j),q∉X.W.fp:=fun j hj q hq z=>h.wo.off (h.st j hj).sk (h.TG hj) z ((ib _ _).2 (Or.inl hq))
 have TH: ∀i,i<2->i≠X.ix k-> ∀q∈X.Fd i,q∉(X.so k).fp:=fun i hi2 hn q hq z=>by
   rcases Iw q z with y| y
   · exact h.sd k hk i hi2 q y hq
   · exact h.df i _ hi2 hi hn q hq y
 have TJ: ∀i,i<2-> ∀q∈X.Fd i,q∉X.W.fp:=fun i hi2 q hq z=>h.wo.Lm (h.dk i hi2) (fun k2 e=>h.rd k2 e i hi2) z hq
 have Ez: ∀j,j<X.n-> ∀q∈eC (X.so j),q<w.heap.size:=fun j hj q hq=>((h.st j hj).sk.cF ((ib _ _).2 (Or.inl hq))).2
 have EA: ∀i,i<2-> ∀q∈X.Fd i,q<w.heap.size:=fun i hi2 q hq=>((h.dk i hi2).lt q hq).2
 have xH: ∀j,j<X.n->j≠k-> ∀q∈eC (X.so j),w'.heap[q]? =w.heap[q]? :=fun j hj hn q hq=>keep q (Ez j hj q hq) (QK j hj hn q hq) (QL j hj q hq)
 have xI: ∀i,i<2->i≠X.ix k-> ∀q∈X.Fd i,w'.heap[q]? =w.heap[q]? :=fun i hi2 hn q hq=>keep q (EA i hi2 q hq) (TH i hi2 hn q hq) (TJ i hi2 q hq)
 have vB: ∀j,j<X.n->j≠k-> ∀q∈eC (X.so j),q∉S'.fp:=fun j hj hn q hq z=>by
   rcases hG1 q z with y| y
   · exact QK j hj hn q hq y
   · have:=Ez j hj q hq;omega
 have dy: ∀i,i<2->i≠X.ix k-> ∀q∈X.Fd i,q∉S'.fp:=fun i hi2 hn q hq z=>by
   rcases hG1 q z with y| y
   · exact TH i hi2 hn q hq y
   · have:=EA i hi2 q hq;omega
 have oS: ∀q∈eC S',q∈S'.fp:=fun q z=>(ib _ _).2 (Or.inl z)
 have fS: ∀q∈S'.F,q∈S'.fp:=fun q z=>(ib _ _).2 (Or.inr z)
 have kL: ∀i,(X.step k S' W').Fd i=if i=X.ix k then S'.F else X.Fd i:=fun _=>rfl
 have oh: ∀i,(X.step k S' W').Dd i=if i=X.ix k then S'.D else X.Dd i:=fun _=>rfl
 have jV: ∀j,(X.step k S' W').so j=if j=k then S' else if X.ix j=X.ix k then{X.so j with F:=S'.F,D:=S'.D}else X.so j:=fun _=>rfl
 have om: ∀j,eC ((X.step k S' W').so j)=if j=k then eC S' else eC (X.so j):=fun j=>by
   rw [jV]
   by_cases q:j=k
   · rw [if_pos q,if_pos q]
   · rw [if_neg q,if_neg q]
     by_cases z:X.ix j=X.ix k
     · rw [if_pos z];rfl
     · rw [if_neg z]
 have je: ∀j,((X.step k S' W').so j).ep=(X.so j).ep:=fun j=>by
   rw [jV]
   by_cases q:j=k
   · rw [if_pos q,t5,q]
   · rw [if_neg q]
     by_cases z:X.ix j=X.ix k
     · rw [if_pos z]
     · rw [if_neg z]
 have iC: ∀q,X.W.dl.ownBlock=some q->w'.heap[q]? =w.heap[q]? :=fun q e=>by
   obtain⟨_,cs,a⟩:=h.dl.ty e
   exact keep q (aC a) (sk.sk.jt a (Or.inl rfl)) (h.wo.jt a (Or.inl rfl))
 have htl: ∀q,X.W.tl.ownBlock=some q->w'.heap[q]? =w.heap[q]? :=fun q e=>by
   obtain⟨_,cs,a⟩:=h.tl.ty e
   exact keep q (aC a) (sk.sk.jt a (Or.inr rfl)) (h.wo.jt a (Or.inr rfl))
 have TK:DA w' base S'.F (X.pd (X.ix k)) S'.D:=by
   have:=hS.da
   rw [t6,sk.p]at this;exact this
 have fL: ∀q,W'.room.ownBlock=some q->q∈X.W.fp\/w.heap.size<=q:=fun q e=>hG2 q ((W'.mem q).2 (by simp [e]))
 refine⟨⟨hW,fun i hi2=>?_,fun i hi2=>?_,fun i j hi2 hj2 hn=>?_,fun j hj=>?_,fun j l hj hl hn=>?_,fun j l hj hl hn e=>?_,fun j hj i hi2=>?_,fun q e i hi2=>?_,fun q e j hj=>?_,?_,?_,Nat.le_succ_of_le h.nn⟩,fun q z=>?_⟩
 · rw [kL,oh]
   by_cases q:i=X.ix k
   · rw [if_pos q,if_pos q,q];exact TK
   · rw [if_neg q,if_neg q];exact(h.dk i hi2).of_heap (xI i hi2 q)
 · rw [oh]
   by_cases q:i=X.ix k
   · rw [if_pos q]
     have:=h.dm i hi2
     rw [q,<-sk.D]at this
     exact this.cn t4
   · rw [if_neg q];exact(h.dm i hi2).more _ (by omega)
 · rw [kL,kL]
   by_cases q1:i=X.ix k
   · rw [if_pos q1,if_neg (fun z=>hn (q1.trans z.symm))]
     exact fun q z y=>dy j hj2 (fun e=>hn (q1.trans e.symm)) q y (fS q z)
   · rw [if_neg q1]
     by_cases q2:j=X.ix k
     · rw [if_pos q2];exact fun q z y=>dy i hi2 q1 q z (fS q y)
     · rw [if_neg q2];exact h.df i j hi2 hj2 hn
 · have sj:=h.st j hj
   by_cases q:j=k
   · have e1:(X.step k S' W').so j=S':=by rw [jV,if_pos q]
     have e2:(X.step k S' W').ix j=X.ix k:=by show X.ix j=_;rw [q]
     refine⟨sj.ix,by rw [e1];exact hS,by rw [e1,e2,kL,if_pos rfl],by rw [e1,e2,t6];exact sk.p,by rw [e1,e2,oh,if_pos rfl],by rw [e1];exact t3,by rw [e1];exact t2,?_⟩
     rw [e1,e2,oh,if_pos rfl,t5,t4.ep,sk.D];exact sk.ep
   · by_cases z:X.ix j=X.ix k
     · have e1:(X.step k S' W').so j={X.so j with F:=S'.F,D:=S'.D}:=by rw [jV,if_neg q,if_pos z]
       have e2:(X.step k S' W').ix j=X.ix k:=z
       have e3:(X.so j).D=(X.so k).D:=by rw [sj.D,sk.D,z]
       have gd:=sj.gd
       have c1:=t4.np;have c2:=t4.rd;have c3:=t4.wr;have c4:=t4.sy;have c5:=t4.op
       have d1:=gd.fit;have d2:=gd.np;have d3:=gd.pg;have d4:=gd.rd;have d5:=gd.wr;have d6:=gd.sy;have d7:=gd.ops;have d8:=gd.N
       rw [e3]at d1 d2 d3 d4 d5 d6 d7
       refine⟨sj.ix,?_,by rw [e1,e2,kL,if_pos rfl],by rw [e1,e2];show(X.so j).p=X.pd (X.ix k);rw [sj.p,z],by rw [e1,e2,oh,if_pos rfl],?_,?_,?_⟩
       · rw [e1]
         refine sj.sk.Ju ?_ (xH j hj q) (fun y hy v=>vB j hj q y hy (fS y v))
         rw [sj.p,z];exact TK
       · rw [e1]
         exact⟨gd.nx,by show(X.so j).s.ma+((X.so j).aB.length:Int)<=(S'.D.np:Int);omega,by show S'.D.np<=64;omega,gd.val,by show(X.so j).s.pg=(S'.D.np:Int);omega,by show(X.so j).N<=_;omega,by show S'.D.reads<=_;omega,by show S'.D.writes<=_;omega,by show S'.D.aA<=_;omega,by show S'.D.ops.length<=_;omega⟩
       · rw [e1]
         rcases t8 with y| y
         · have er1: ∀q,S'.D.aj q=(X.so k).D.aj q:=fun q=>by
             have:=congrArg (fun D=>DS.aj D q) y;exact this
           have lv1:ak S'.D (X.so j).ep=ak (X.so k).D (X.so j).ep:=by
             have:=congrArg (fun D=>ak D (X.so j).ep) y;exact this
           exact qm (S':={X.so j with F:=S'.F,D:=S'.D}) sj.co (fun q=>by rw [e3];exact er1 q) (fun l=>by rw [e3,<-lv1];exact l) rfl (fun x hx=>hx)
         · intro l
           exfalso
           have l1:=(jg y).1
           have l2:=(jg (show ak S'.D (X.so j).ep=0 from l)).1
           have l3:=t4.ep
           exact h.se j k hj hk q z (by omega)
       · rw [e1,e2,oh,if_pos rfl,t4.ep,<-e3,sj.D];exact sj.ep
     · have e1:(X.step k S' W').so j=X.so j:=by rw [jV,if_neg q,if_neg z]
       have e2:(X.step k S' W').ix j=X.ix j:=rfl
       refine⟨sj.ix,?_,by rw [e1,e2,kL,if_neg z];exact sj.F,by rw [e1];exact sj.p,by rw [e1,e2,oh,if_neg z];exact sj.D,by rw [e1];exact sj.gd.more _ (by omega),by rw [e1];exact sj.co,by rw [e1,e2,oh,if_neg z];exact sj.ep⟩
       rw [e1]
       refine sj.sk.lh (fun y hy=>?_) hF.size
       rcases(ib _ _).1 hy with v| v
       · exact xH j hj q y v
       · exact xI _ sj.ix z y (sj.F▸v)
 · rw [om,om]
   by_cases q1:j=k
   · rw [if_pos q1,if_neg (fun z=>hn (q1.trans z.symm))]
     exact fun q z y=>vB l hl (fun e=>hn (q1.trans e.symm)) q y (oS q z)
   · rw [if_neg q1]
     by_cases q2:l=k
     · rw [if_pos q2];exact fun q z y=>vB j hj q1 q z (oS q y)
     · rw [if_neg q2];exact h.sp j l hj hl hn
 · rw [je,je];exact h.se j l hj hl hn e
 · rw [om,kL]
   by_cases q1:j=k
   · rw [if_pos q1]
     by_cases q2:i=X.ix k
     · rw [if_pos q2];exact hS.Ey
     · rw [if_neg q2];exact fun q z y=>dy i hi2 q2 q y (oS q z)
   · rw [if_neg q1]
     by_cases q2:i=X.ix k
     · rw [if_pos q2];exact fun q z y=>vB j hj q1 q z (fS q y)
     · rw [if_neg q2];exact h.sd j hj i hi2
 · rw [kL]
   by_cases q2:i=X.ix k
   · rw [if_pos q2];exact fun z=>hr q e (fS q z)
   · rw [if_neg q2]
     intro z
     rcases fL q e with y| y
     · exact TJ i hi2 q z y
     · have:=EA i hi2 q z;omega
 · rw [om]
   by_cases q1:j=k
   · rw [if_pos q1];exact fun z=>hr q e (oS q z)
   · rw [if_neg q1]
     intro z
     rcases fL q e with y| y
     · exact QL j hj q z y
     · have:=Ez j hj q z;omega
 · show dt w' base 50 W'.dl _
   rw [hg.2.1];exact h.dl.of_heap iC
 · show dt w' base 60 W'.tl _
   rw [hg.2.2]
   have e:(List.range X.n).map (fun j=>(.pointer (some ⟨((X.step k S' W').so j).st,0,none⟩):Value))=(List.range X.n).map (fun j=> .pointer (some ⟨(X.so j).st,0,none⟩)):=by
     refine List.map_congr_left fun j _=>?_
     rw [Og X k S' W' t7]
   show dt w' base 60 X.W.tl ((List.range X.n).map fun j=> .pointer (some ⟨((X.step k S' W').so j).st,0,none⟩))
   rw [e];exact h.tl.of_heap htl
 · have mr: ∀q,q∈(X.so k).fp->q∈X.fp:=fun q z=>(X.mem q).2 (by
     rcases Iw q z with y| y
     · exact Or.inr (Or.inr (Or.inr (Or.inr (Or.inr ⟨k,hk,y⟩))))
     · rcases(show X.ix k=0\/X.ix k=1 by omega)with e| e<;>rw [e]at y<;>simp [y])
   have QM: ∀q,q∈S'.fp->q∈X.fp\/w.heap.size<=q:=fun q z=>(hG1 q z).imp (mr q) id
   rcases((X.step k S' W').mem q).1 z with e| e| e| e| e| ⟨j,hj,e⟩
   · exact(hG2 q e).imp (fun y=>(X.mem q).2 (Or.inl y)) id
   · exact Or.inl ((X.mem q).2 (Or.inr (Or.inl (by rw [<-hg.2.1];exact e))))
   · exact Or.inl ((X.mem q).2 (Or.inr (Or.inr (Or.inl (by rw [<-hg.2.2];exact e)))))
   · rw [kL]at e
     by_cases q1:0=X.ix k
     · rw [if_pos q1]at e;exact QM q (fS q e)
     · rw [if_neg q1]at e;exact Or.inl ((X.mem q).2 (by simp [e]))
   · rw [kL]at e
     by_cases q1:1=X.ix k
     · rw [if_pos q1]at e;exact QM q (fS q e)
     · rw [if_neg q1]at e;exact Or.inl ((X.mem q).2 (by simp [e]))
   · rw [om]at e
     by_cases q1:j=k
     · rw [if_pos q1]at e;exact QM q (oS q e)
     · rw [if_neg q1]at e;exact Or.inl ((X.mem q).2 (Or.inr (Or.inr (Or.inr (Or.inr (Or.inr ⟨j,hj,e⟩))))))
end Go.Proofs.YtpdakmhnnkaafaaGreat

import Derived.Test.YtpdakmhnnkaafaaGreatR25
import Derived.Maps.RangeWalk
namespace Go.Proofs.YtpdakmhnnkaafaaGreat
set_option maxRecDepth 100000
set_option maxHeartbeats 40000000
set_option linter.unusedVariables false
set_option linter.unusedSimpArgs false
open Go.RowKit
open Go.Proofs.YtpdakmhnnkaafaaGreat.Ca (Ct ct0 av bV AS)
structure PW where
 D:Nat->DS
 n:Nat
 ix:Nat->Nat
 ps:Nat->PS
structure PB where
 E:Int
 N:Int
 md:Bool
 rz:List Int
 s:aD
 c1:Int
 c2:Int
 c3:Int
def pb0:PB:=⟨0,0,false,[],sup0,0,0,0⟩
def lu(X:WD)(P:PW):Prop:=(∀a,a<2->er (X.Dd a)=P.D a)/\X.n=P.n/\ ∀k,k<X.n->X.ix k=P.ix k/\bH (X.so k)=P.ps k
def PW.CE(P:PW)(i:Nat)(D:DS):PW:={P with D:=fun a=>if a=i then D else P.D a}
def dV(P:PW)(kd at_ nn mm:Int)(zr:List Int):PW×PB:=
 let i:=(eP at_ 2).toNat
 if kd=1 then
   ({D:=fun a=>if a=i then er (cK (P.D i) mm zr).1 else P.D a,n:=P.n+(if(cK (P.D i) mm zr).2.2=true then 1 else 0),ix:=fun j=>if j<P.n then P.ix j else i,ps:=fun j=>if j<P.n then P.ps j else⟨oq (P.D i),(P.D i).ag+1,[]⟩},⟨(cK (P.D i) mm zr).2.1,0,(cK (P.D i) mm zr).2.2,[],sup0,0,0,0⟩)
 else if kd=12 then(P.CE i ((P.D i).arm nn),pb0)
 else if kd=13 then(P.CE i ((P.D i).crashed (zr.take 300)),⟨0,(P.D i).ops.length,false,[],sup0,0,0,0⟩)
 else if kd=15 then(P,⟨0,0,false,(P.D i).af,sup0,0,0,0⟩)
 else if kd=16 then(P,⟨0,0,false,[],sup0,(P.D i).writes,(P.D i).aA,(P.D i).ops.length⟩)
 else if kd<2\/11<kd\/P.n=0 then(P,pb0)
 else
   let k:=(eP at_ P.n).toNat
   ({P with D:=fun a=>if a=P.ix k then(jI (P.D (P.ix k)) (P.ps k) kd nn zr).1 else P.D a,ps:=fun j=>if j=k then(jI (P.D (P.ix k)) (P.ps k) kd nn zr).2.1 else P.ps j},⟨(jI (P.D (P.ix k)) (P.ps k) kd nn zr).2.2.E,(jI (P.D (P.ix k)) (P.ps k) kd nn zr).2.2.N,false,(jI (P.D (P.ix k)) (P.ps k) kd nn zr).2.2.rz,(jI (P.D (P.ix k)) (P.ps k) kd nn zr).2.2.s,0,0,0⟩)
def RV(w:World)(base:Nat)(X:WD)(b c:Nat)(P:PW)(kd at_ nn mm:Int)(zr:List Int)(e:Ending)(w':World):Prop:= ∃X' E N md rv rz s t1 t2 t3 t4 t5 c0 c1 c2 c3,e= .returned (.agg (aN E N md rv s t1 t2 t3 t4 t5 c0 c1 c2 c3))/\(Own w' w.heap.size rv rz/\ ∀k,rv.ownBlock=some k->k∉X'.fp)/\WI w' base X' (b+200) (c+1)/\lu X' (dV P kd at_ nn mm zr).1/\(⟨E,N,md,rz,s,c1,c2,c3⟩:PB)=(dV P kd at_ nn mm zr).2/\X'.W.g=X.W.g/\Below base w w'/\Fr X.fp w w'/\Gr w X.fp X'.fp/\ ∀a,a<2->(X'.Dd a).np=(X.Dd a).np
theorem jc{w0 w2 w3:World}{base:Nat}{X X':WD}{b c b' c':Nat}{oc:Array Value}(h:WI w0 base X b c)(hP:Pn w0 w2 oc)(hX:WI w3 base X' b' c')(hB:Below base w2 w3)(hF:Fr X.fp w2 w3)(hG:Gr w2 X.fp X'.fp)(cs:Array Value):
   w3.heap[w0.heap.size+1]? =some (.cells cf 46 (0,0))/\WI (w3.setRow (w0.heap.size+1) cs) base X' b' c'/\Below base w0 (w3.setRow (w0.heap.size+1) cs)/\Fr X.fp w0 (w3.setRow (w0.heap.size+1) cs)/\Gr w0 X.fp X'.fp:=by
 have hsz:=hP.sz
 have cX:base<=w0.heap.size:=by
   have:=h.lt ((X.mem _).2 (Or.inl ((X.W.mem X.W.g).2 (by simp))))
   omega
 have ha:w3.heap[w0.heap.size+1]? =some (.cells cf 46 (0,0)):=(hF.block _ (by omega) (fun q=>by have:=(h.lt q).2;omega)).trans hP.an
 have hb:Below base w0 w3:=(hP.bl.mono cX).trans hB
 refine⟨ha,hX.Jw ha cs,below_setRow hb (by omega) cs,?_,fun k q=>(hG k q).imp id (fun z=>by omega)⟩
 have z:=hF.size
 exact⟨hF.os.trans hP.bl.os,hF.tape.trans hP.bl.tape,hF.output.trans hP.bl.output,by rw [size_setRow];omega,fun k a q=>(setRow_other _ _ _ _ (by omega)).trans ((hF.block k (by omega) q).trans (hP.bl.block k a))⟩
theorem zL{X:WD}{P:PW}(h:lu X P)(i:Nat)(F':List Nat)(D' D2:DS)(hD:er D'=D2):lu (X.bY i F' D') (P.CE i D2):=by
 obtain⟨h1,h2,h3⟩:=h
 refine⟨fun a ha=>?_,h2,fun k hk=>⟨(h3 k hk).1,(ue X i F' D' k).trans (h3 k hk).2⟩⟩
 show er (if a=i then D' else X.Dd a)=if a=i then D2 else P.D a
 by_cases q:a=i
 · rw [if_pos q,if_pos q];exact hD
 · rw [if_neg q,if_neg q];exact h1 a ha
theorem EG(X:WD)(i:Nat)(F':List Nat){D':DS}(h:D'.np=(X.Dd i).np): ∀a,a<2->((X.bY i F' D').Dd a).np=(X.Dd a).np:=fun a _=>by
 show(if a=i then D' else X.Dd a).np=_
 by_cases q:a=i
 · rw [if_pos q,q];exact h
 · rw [if_neg q]
theorem Ls(X:WD)(k:Nat){S':au}(W':Wr)(h:S'.D.np=(X.Dd (X.ix k)).np): ∀a,a<2->((X.step k S' W').Dd a).np=(X.Dd a).np:=fun a _=>by
 show(if a=X.ix k then S'.D else X.Dd a).np=_
 by_cases q:a=X.ix k
 · rw [if_pos q,q];exact h
 · rw [if_neg q]
theorem Om{X X':WD}{i:Nat}{D2:DS}(h: ∀a,a<2->er (X'.Dd a)=if a=i then er D2 else er (X.Dd a))(n:D2.np=(X.Dd i).np): ∀a,a<2->(X'.Dd a).np=(X.Dd a).np:=fun a ha=>by
 have e:=congrArg DS.np (h a ha)
 have e2:(X'.Dd a).np=(if a=i then er D2 else er (X.Dd a)).np:=e
 rw [e2]
 by_cases q:a=i
 · rw [if_pos q,q];exact n
 · rw [if_neg q];rfl
theorem QY(D:DS)(n:Int):er (D.arm n)=(er D).arm n:=by
 unfold DS.arm
 show _=(if D.power=true then _ else _)
 split<;>rfl
theorem QZ{D:DS}{b:Nat}(h:DB D b)(n:Int):(D.arm n).np=D.np/\DB (D.arm n) (b+200)/\D.ag<=(D.arm n).ag/\(∀ep,ak (D.arm n) ep=ak D ep)/\ ∀q,(D.arm n).aj q=D.aj q:=by
 have h2:=h.more (b+200) (by omega)
 unfold DS.arm
 split
 · exact⟨rfl,⟨h2.rd,h2.wr,h2.sy,h2.ep,h2.op,h2.np⟩,Int.le_refl _,fun _=>rfl,fun _=>rfl⟩
 · exact⟨rfl,h2,Int.le_refl _,fun _=>rfl,fun _=>rfl⟩
theorem Lt{D:DS}{b:Nat}(hok:cC D)(h:DB D b)(fs:List Int):(D.crashed fs).np=D.np/\DB (D.crashed fs) (b+200)/\D.ag<=(D.crashed fs).ag/\D.ag<(D.crashed fs).ag:=by
 have h1:=h.rd;have h2:=h.wr;have h3:=h.sy;have h4:=h.ep;have h5:=h.op;have h6:=h.np
 obtain⟨_,_,hn,hop⟩:=hok.np
 have e:(D.crashed fs).np=D.np:=by
   show(bP D.af D.ops fs D.ops.length).length/256=_
   rw [fG fs hn hop _ (Nat.le_refl _)];omega
 exact⟨e,⟨by show D.reads<=_;omega,by show D.writes<=_;omega,by show D.aA<=_;omega,by show D.ag+1<=_;omega,by show([]:List OW).length<=_;simp,by rw [e];exact h6⟩,by show D.ag<=D.ag+1;omega,by show D.ag<D.ag+1;omega⟩
theorem JD{X X':WD}{P:PW}{i:Nat}{at_ nn mm:Int}{zr:List Int}(h:lu X P)(hi:i<2)(hin:(eP at_ 2).toNat=i)(h1: ∀a,a<2->er (X'.Dd a)=if a=i then er (cK (X.Dd i) mm zr).1 else er (X.Dd a))(h2:X'.n=X.n+(if(cK (X.Dd i) mm zr).2.2=true then 1 else 0))(h3: ∀k,k<X.n->X'.ix k=X.ix k/\bH (X'.so k)=bH (X.so k))(h4:(cK (X.Dd i) mm zr).2.2=true->X'.ix X.n=i/\bH (X'.so X.n)=⟨oq (X.Dd i),(X.Dd i).ag+1,[]⟩):
   lu X' (dV P 1 at_ nn mm zr).1/\(⟨(cK (X.Dd i) mm zr).2.1,0,(cK (X.Dd i) mm zr).2.2,[],sup0,0,0,0⟩:PB)=(dV P 1 at_ nn mm zr).2:=by
 obtain⟨v1,v2,v3⟩:=h
 obtain⟨e1,e2⟩:=Oj (X.Dd i) mm zr
 rw [v1 i hi]at e1 e2
 have e3:oq (P.D i)=oq (X.Dd i):=by rw [<-v1 i hi];rfl
 have e4:(P.D i).ag=(X.Dd i).ag:=by rw [<-v1 i hi];rfl
 unfold dV
 rw [if_pos rfl]
 dsimp only
 rw [hin]
 refine⟨⟨fun a ha=>?_,?_,fun k hk=>?_⟩,by rw [e2]⟩
 · rw [h1 a ha]
   show _=if a=i then er (cK (P.D i) mm zr).1 else P.D a
   by_cases q:a=i
   · rw [if_pos q,if_pos q,e1]
   · rw [if_neg q,if_neg q,v1 a ha]
 · show _=P.n+(if(cK (P.D i) mm zr).2.2=true then 1 else 0)
   rw [h2,e2,v2]
 · show X'.ix k=(if k<P.n then P.ix k else i)/\bH (X'.so k)=(if k<P.n then P.ps k else⟨oq (P.D i),(P.D i).ag+1,[]⟩)
   by_cases q:k<P.n
   · rw [if_pos q,if_pos q]
     have q2:k<X.n:=by omega
     exact⟨(h3 k q2).1.trans (v3 k q2).1,(h3 k q2).2.trans (v3 k q2).2⟩
   · rw [if_neg q,if_neg q]
     by_cases z:(cK (X.Dd i) mm zr).2.2=true
     · rw [if_pos z]at h2
       have hkn:k=X.n:=by omega
       obtain⟨a1,a2⟩:=h4 z
       rw [hkn,e3,e4];exact⟨a1,a2⟩
     · rw [if_neg z]at h2;omega
theorem Lu{X:WD}{P:PW}{k:Nat}{kd at_ nn mm:Int}{zr:List Int}{S':au}{W':Wr}{A:PA}{b:Nat}(h:lu X P)(hk:k<X.n)(hi:X.ix k<2)(hD:(X.so k).D=X.Dd (X.ix k))(uH:2<=kd/\kd<=11)(hin:(eP at_ P.n).toNat=k)(hT:oY (X.so k) S' b kd nn zr A):
   lu (X.step k S' W') (dV P kd at_ nn mm zr).1/\(⟨A.E,A.N,false,A.rz,A.s,0,0,0⟩:PB)=(dV P kd at_ nn mm zr).2:=by
 obtain⟨v1,v2,v3⟩:=h
 obtain⟨t1,_⟩:=hT
 rw [hD,v1 _ hi,(v3 k hk).1,(v3 k hk).2]at t1
 unfold dV
 rw [if_neg (by omega),if_neg (by omega),if_neg (by omega),if_neg (by omega),if_neg (by omega),if_neg (by omega)]
 dsimp only
 rw [hin,<-t1]
 refine⟨⟨fun a ha=>?_,v2,fun j hj=>⟨(v3 j hj).1,?_⟩⟩,rfl⟩
 · show er (if a=X.ix k then S'.D else X.Dd a)=if a=P.ix k then er S'.D else P.D a
   rw [(v3 k hk).1]
   by_cases q:a=P.ix k
   · rw [if_pos q,if_pos q]
   · rw [if_neg q,if_neg q];exact v1 a ha
 · show bH (if j=k then S' else if X.ix j=X.ix k then{X.so j with F:=S'.F,D:=S'.D}else X.so j)=if j=k then bH S' else P.ps j
   by_cases q:j=k
   · rw [if_pos q,if_pos q]
   · rw [if_neg q,if_neg q]
     by_cases z:X.ix j=X.ix k
     · rw [if_pos z];exact(v3 j hj).2
     · rw [if_neg z];exact(v3 j hj).2
theorem Lv{w:World}{base:Nat}{X:WD}{b c k:Nat}{S':au}{W':Wr}(h:WI w base X b c)(hk:k<X.n)(hg:W'.dl=X.W.dl/\W'.tl=X.W.tl){q:Nat}(hq:w.heap.size<=q)(h1:q∉S'.fp)(h2:q∉W'.fp):q∉(X.step k S' W').fp:=fun z=>by
 have old:q∈X.fp->False:=fun y=>by have:=(h.lt y).2;omega
 rcases((X.step k S' W').mem q).1 z with e| e| e| e| e| ⟨j,hj,e⟩
 · exact h2 e
 · exact old ((X.mem q).2 (Or.inr (Or.inl (by rw [<-hg.1];exact e))))
 · exact old ((X.mem q).2 (Or.inr (Or.inr (Or.inl (by rw [<-hg.2];exact e)))))
 · have q2:q∈(if 0=X.ix k then S'.F else X.Fd 0):=e
   by_cases q1:0=X.ix k
   · rw [if_pos q1]at q2;exact h1 ((ib _ _).2 (Or.inr q2))
   · rw [if_neg q1]at q2;exact old ((X.mem q).2 (by simp [q2]))
 · have q2:q∈(if 1=X.ix k then S'.F else X.Fd 1):=e
   by_cases q1:1=X.ix k
   · rw [if_pos q1]at q2;exact h1 ((ib _ _).2 (Or.inr q2))
   · rw [if_neg q1]at q2;exact old ((X.mem q).2 (by simp [q2]))
 · have e2:q∈eC (if j=k then S' else if X.ix j=X.ix k then{X.so j with F:=S'.F,D:=S'.D}else X.so j):=e
   by_cases q1:j=k
   · rw [if_pos q1]at e2;exact h1 ((ib _ _).2 (Or.inl e2))
   · rw [if_neg q1]at e2
     have e3:q∈eC (X.so j):=by
       by_cases q3:X.ix j=X.ix k
       · rw [if_pos q3]at e2;exact e2
       · rw [if_neg q3]at e2;exact e2
     exact old ((X.mem q).2 (Or.inr (Or.inr (Or.inr (Or.inr (Or.inr ⟨j,hj,e3⟩))))))
end Go.Proofs.YtpdakmhnnkaafaaGreat
namespace Go.Proofs.YtpdakmhnnkaafaaGreat
set_option maxRecDepth 100000
set_option maxHeartbeats 40000000
set_option linter.unusedVariables false
set_option linter.unusedSimpArgs false
open Go.RowKit
open Go.Proofs.YtpdakmhnnkaafaaGreat.Ca (Ct ct0 av bV AS)
attribute [local go_sem ↓] Go.wp_at_zero Go.wp_at_succ
theorem fP:(Tryz.prog.info? 38).map (·.size)=some 6:=by kernel_rfl
theorem yC{w:World}{ops:Array Oper}{o:Oper}{a:Act}{K:Act->World->Prop}{Q:Exit->Act->World->Prop}{E:Prop}(hgd:o.guard=none)(ty:TypeId)(x y:Operand)(ho:o.op= .store ty x y)
   (g:Nat) (cells:Array Value) (hx:a.eval x= .pointer (some ⟨g,0,none⟩)) (hy:a.eval y= .agg cells)
   (t:TypeId) (old:Array Value) (hg:w.heap[g]? =some (.cells old t (0,0))) (hi:(Tryz.prog.info? ty).map (·.size)=some cells.size)
   (hold:old.size=cells.size) (h1:cells.all (·.oneCell')=true) (h:K (a.put o.dst undef) (w.setRow g cells)):
   if Region.wanted o (yielded ops a.tmps)=true then Oper.wp Tryz.prog o a w K Q else E:=by
 have hw:Region.wanted o (yielded ops a.tmps)=true:=by simp [Region.wanted,hgd]
 rw [if_pos hw]
 exact wp_store_row ty x y ho g cells hx hy t old hg hi hold h1 h
theorem CF{X:WD}{i q:Nat}(hi:i<2)(h:q∈X.Fd i):q∈X.fp:=(X.mem q).2 (by
 rcases(show i=0\/i=1 by omega)with e| e<;>subst e<;>simp [h])
theorem Lx{w0 w2 w w3:World}{base:Nat}{X:WD}{b c k:Nat}{S':au}{W':Wr}{rv:Value}{rz:List Int}(h:WI w base X b c)(hk:k<X.n)(hg:W'.g=X.W.g/\W'.dl=X.W.dl/\W'.tl=X.W.tl)(hO:Own w3 w.heap.size rv rz)(hN: ∀q,rv.ownBlock=some q->q∉S'.fp/\q∉W'.fp)(h1:w0.heap.size<=w.heap.size)(h2:w2.heap.size=w0.heap.size+2)(h3:w2.heap.size<=w.heap.size)(cs:Array Value):
   Own (w3.setRow (w0.heap.size+1) cs) w0.heap.size rv rz/\ ∀q,rv.ownBlock=some q->q∉(X.step k S' W').fp:=by
 refine⟨Own.base (hO.of_heap fun q e=>setRow_other _ _ _ _ ?_) h1,fun q e=>?_⟩
 · have:=(aH hO q e).1;omega
 · exact Lv h hk hg.2 (aH hO q e).1 (hN q e).1 (hN q e).2
theorem Fr.RX{w0 w2 w w3:World}{base:Nat}{X:WD}{b c k:Nat}(hF:Fr ((X.so k).fp++X.W.fp) w.drew w3)(h:WI w base X b c)(hk:k<X.n)(h1:w0.heap.size<=w.heap.size)(h2:w2.heap.size=w0.heap.size+2)(h3:w2.heap.size<=w.heap.size)(hn:w0.heap.size∉X.fp):w3.heap[w0.heap.size]? =w.drew.heap[w0.heap.size]? :=
 hF.block _ (show w0.heap.size<w.heap.size by omega) fun q=>hn ((List.mem_append.1 q).elim (fun z=>((ib _ _).1 z).elim (fun y=>(X.mem _).2 (Or.inr (Or.inr (Or.inr (Or.inr (Or.inr ⟨k,hk,y⟩)))))) (fun y=>CF (h.st k hk).ix ((h.st k hk).F▸y))) (fun z=>(X.mem _).2 (Or.inl z)))
theorem Oo{w3:World}{base c:Nat}{W W':Wr}{v:Value}(hW:WO w3 base W' c)(hg:W'.g=W.g/\W'.dl=W.dl/\W'.tl=W.tl)(e:W.tl=v):w3.cell? ⟨W.g,1,none⟩=some v:=by
 have r:=hW.row
 rw [hg.1]at r
 rw [cell_of_row _ _ _ _ _ _ r]
 show some W'.tl=_
 rw [hg.2.2,e]
theorem LB{w w3:World}{base:Nat}{X:WD}{b c k gt:Nat}(h:WI w base X b c)(hk:k<X.n)(hF:Fr ((X.so k).fp++X.W.fp) w.drew w3)(e:X.W.tl.ownBlock=some gt):w3.heap[gt]? =w.drew.heap[gt]? :=by
 obtain⟨_,cs,hc⟩:=h.tl.ty e
 exact hF.block _ (aC hc) fun q=>(List.mem_append.1 q).elim ((h.st k hk).sk.jt hc (Or.inr rfl)) (h.wo.jt hc (Or.inr rfl))
theorem Va(a b c d:Int)(w:World):(Instr.build 46 #[(6, .agg #[.int .i64 a, .int .i64 b, .int .i64 c, .int .i64 d])]).run Tryz.prog w= .ok (.agg (aN 0 0 false (.slice none 0 0) sup0 0 0 0 0 0 a b c d)) w:=by kernel_rfl
theorem EH{X:WD}{i:Nat}(hi:i<2){w w':World}(h:Fr (X.Fd i) w w'):Fr X.fp w w':=h.xl fun k hk=>(X.mem k).2 (by
 rcases(show i=0\/i=1 by omega)with e| e<;>rw [e]at hk<;>simp [hk])
theorem Oq(w0:World)(base:Nat)(X:WD)(b c:Nat)(P:PW)(h:WI w0 base X b c)(hV:lu X P)(hb:b<=1000000000)(hc:c<=1000000000)(kd at_ nn mm:Int)(h14:kd≠14)(hat: -9223372036854775808<=at_/\at_<=9223372036854775807)(hn64:nn<=9223372036854775807)(hnn:kd=1->0<=nn/\nn<=4096)(zr:List Int)(h8:aS zr)(hl:zr.length<=140737488352000)(sp:Option Addr)(l cap bt:Nat)(hlz:l=zr.length)(hS:Src w0 sp cap zr)(eD:0<zr.length-> ∀a,sp=some a->a.block<base):
   Calls Tryz.prog 7 #[.pointer (some ⟨X.W.g,0,none⟩), .agg (aK kd at_ nn mm (.slice sp l cap) bt)] w0 (RV w0 base X b c P kd at_ nn mm zr):=by
 subst hlz
 have QV:=tK at_ 2 (by omega)
 obtain⟨i,hi0⟩: ∃i:Nat,eP at_ 2=(i:Int):=⟨(eP at_ 2).toNat,by omega⟩
 have hi:i<2:=by omega
 have tk:=aa (fun(iG:World)=>vC iG at_ 2 hat (by omega) (by omega))
 rw [hi0]at tk
 have hin:(eP at_ 2).toNat=i:=by omega
 have EI:=aa hin
 clear hin
 obtain⟨w2,hw2⟩: ∃w2,w2=(w0.alloc (.cells (aK kd at_ nn mm (.slice sp zr.length cap) bt) 38)).alloc (.cells #[.int .i64 0, .int .i64 0, .bool false, .slice none 0 0, .int .i64 0, .int .i64 0, .int .i64 0, .int .i64 0, .int .i64 0, .int .i64 0, .int .i64 0, .int .i64 0, .int .i64 0, .int .i64 0, .int .i64 0, .int .i64 0, .int .i64 0, .int .i64 0] 46):=⟨_,rfl⟩
 have HW2:=aa hw2
 have hP:Pn w0 w2 (aK kd at_ nn mm (.slice sp zr.length cap) bt):=by rw [hw2];exact Pn.mk' w0 _
 have h2:=h.below hP.bl
 obtain⟨sd,mJ,gd,iC,CB,MW,Jy,hdv⟩:=h2.dl.at
 obtain⟨rfl,hgd⟩:=Jy (Nat.zero_lt_succ _)
 obtain⟨pp,sH⟩: ∃pp,pp=X.pd i:=⟨_,rfl⟩
 have hlt: ∀{k:Nat},k∈X.fp->k<w2.heap.size:=fun hk=>(h2.lt hk).2
 have HL:=aa (show(∀iG,Below w2.heap.size w2 iG->iG.cell? ⟨w0.heap.size,1,none⟩=some (.int .i64 at_))/\(∀iG,Below w2.heap.size w2 iG->iG.cell? ⟨X.W.g,0,none⟩=some (.slice (some ⟨gd,0,none⟩) 2 mJ))/\(∀iG,Below w2.heap.size w2 iG->iG.cell? ⟨gd,i,none⟩=some (.pointer (some ⟨pp,0,none⟩)))from by
   refine⟨fun iG q=>?_,fun iG q=>?_,fun iG q=>?_⟩
   · refine(q.cell (p:=⟨w0.heap.size,1,none⟩) (aC hP.op)).trans ?_
     rw [cell_of_row _ _ _ _ _ _ hP.op];rfl
   · refine(q.cell (p:=⟨X.W.g,0,none⟩) (aC h2.wo.row)).trans ?_
     rw [cell_of_row _ _ _ _ _ _ h2.wo.row]
     show some X.W.dl=_
     rw [iC];rfl
   · refine(q.cell (p:=⟨gd,i,none⟩) (hlt ((X.mem _).2 (Or.inr (Or.inl hgd))))).trans ?_
     refine(hdv i hi).trans ?_
     rcases(show i=0\/i=1 by omega)with e| e<;>subst e<;>rw [sH]<;>rfl)
 have i1:(i:Int)<2:=by omega
 have i2:(2:Int)<=(mJ:Int):=by have:([.pointer (some ⟨X.pd 0,0,none⟩), .pointer (some ⟨X.pd 1,0,none⟩)]:List Value).length<=mJ:=CB;simp at this;omega
 have HP:=aa hP
 have HH:=aa h
 have mS:=aa sH
 have CC:=aa (fun(wv:World) (q:Below base w0 wv)=>FT hS q eD)
 have Ra:=aa eD
 have lD:=aa (h.dm i hi)
 have HV:=aa hV
 clear h h2 hP hS eD iC CB MW hgd hdv sH hlt hi0 QV hw2 hV
 go_enter Tryz.func7,Tryz.ntmps7
 go_wp2_with (first
   | refine cQ rfl (.tmp 1) rfl _ at_ nn mm sp zr.length cap bt rfl ?_
   | fail)
 rw [<-HW2.out]
 refine wp_region_noPanic ?_
 refine wp_region_held_drew (S:=fun w'=>Below w2.heap.size w2 w') (by kernel_rfl) (Below.refl _ _).drew (fun hHeld=>?_)
 refine ai 0 (.pointer (some ⟨X.W.g,0,none⟩)) rfl hHeld ?_
 try go_frame
 refine ai 4 (.pointer (some ⟨w0.heap.size,1,none⟩)) rfl hHeld ?_
 try go_frame
 refine ai 1 (.pointer (some ⟨X.W.g,0,none⟩)) rfl hHeld ?_
 try go_frame
 refine aV 5 (.int .i64 at_) rfl (yA (by intro w hS;have hc:=HL.out.1 _ hS;go_simp)) hHeld ?_
 try go_frame
 refine ai 2 (.pointer (some ⟨X.W.g,0,none⟩)) rfl hHeld ?_
 try go_frame
 refine aV 3 (.slice (some ⟨gd,0,none⟩) 2 mJ) rfl (yA (by intro w hS;have hc:=HL.out.2.1 _ hS;go_simp)) hHeld ?_
 try go_frame
 refine bR 6 rfl (fun K hK=>?_)
 go_simp
 go_at_call 17
 refine(tk.out _).mono ?_
 rintro e w4 ⟨rfl,rfl⟩
 go_wp2_with fail
 refine hK.out _ _ (hHeld) ?_
 clear hK K hHeld
 intro hHeld
 try go_frame
 refine ai 7 (.pointer (some ⟨gd,0+i,none⟩)) rfl hHeld ?_
 try go_frame
 refine aV 8 (.pointer (some ⟨pp,0,none⟩)) rfl (yA (by intro w hS;have hc:=HL.out.2.2 _ hS;go_simp)) hHeld ?_
 try go_frame
 refine ai 9 (.pointer (some ⟨pp,0,none⟩)) rfl hHeld ?_
 try go_frame
 refine dY ?_
 generalize w2.drew=w at*
 have HB1:=aa hHeld
 have fw:=aa (show Below w0.heap.size w0 w from HP.out.bl.trans (hHeld.mono HP.out.bl.size))
 have lC:=aa (show base<=w2.heap.size from by
   have e3:=HH.out.lt ((X.mem _).2 (Or.inl ((X.W.mem X.W.g).2 (by simp))))
   have e4:=HP.out.bl.size
   omega)
 have HBS0:=aa (show base<=w0.heap.size from by
   have e3:=HH.out.lt ((X.mem _).2 (Or.inl ((X.W.mem X.W.g).2 (by simp))))
   omega)
 have tN:=aa ((hHeld.block _ (aC HP.out.op)).trans HP.out.op)
 have TR:Hid (∀wX:World,wX.heap[w0.heap.size]? =some (.cells (aK kd at_ nn mm (.slice sp zr.length cap) bt) 38 (0,0))->wX.cell? ⟨w0.heap.size,0,none⟩=some (.int .i64 kd)/\wX.cell? ⟨w0.heap.size,2,none⟩=some (.int .i64 nn)/\wX.cell? ⟨w0.heap.size,4,none⟩=some (.slice sp zr.length cap)):=aa (fun wX q=>by
   refine⟨?_,?_,?_⟩<;>(rw [cell_of_row _ _ _ _ _ _ q];rfl))
 obtain⟨k0,k2,k4⟩:=TR.out w tN.out
 have zJ:=aa (show DA w base (X.Fd i) pp (X.Dd i)from by rw [mS.out];exact(HH.out.dk i hi).below fw.out)
 have pn:=aa (HH.out.below fw.out)
 have EF:w0.heap.size∉X.fp:=fun q=>by have:=(HH.out.lt q).2;omega
 have zy:=aa EF
 clear hHeld HL tk EF
 by_cases j1:kd=1
 · subst j1
   have fZ:=aa (fun(X':WD)=>JD (X':=X') (mm:=mm) (zr:=zr) (nn:=nn) HV.out hi EI.out)
   have Wo:=aa (Lr w base X b c pn.out hb hc at_ nn mm hat (hnn rfl) zr h8 hl sp zr.length cap bt rfl (CC.out w (fw.out.mono HBS0.out)) Ra.out)
   have R0:=tN.out
   clear k2 k4
   go_wp2_with (first| refine wpList_load_row rfl 38 (.tmp 3) rfl w0.heap.size rfl 38 (aK 1 at_ nn mm (.slice sp zr.length cap) bt) _ _ R0 Tryz.underlying38 rfl (by rw [fP];rfl) ?_| fail)
   refine Wo.out.mono ?_
   rintro e w3 ⟨X',rfl,a1,a2,a3,a4,a5,a6,a7,a8,a9⟩
   rw [EI.out]at a2 a3 a5⊢
   obtain⟨v1,v2⟩:=fZ.out X' a2 a3 a4 a5
   have MX:=aa (And.intro v1 (And.intro v2 (And.intro a6 (Om a2 (kM (HH.out.dk i hi).ok lD.out (by omega) mm zr).1))))
   clear v1 v2 a2 a3 a4 a5 a6 fZ R0
   have eL:=aa (jc HH.out HP.out (a1) ((HB1.out.mono lC.out).trans a7) ((Fr.ba (F:=X.fp) HB1.out).trans a8 (Gr.refl _ _)) (fun q z=>(a9 q z).imp id (fun y=>Nat.le_trans HB1.out.size y)) (aN (cK (X.Dd i) mm zr).2.1 0 (cK (X.Dd i) mm zr).2.2 (.slice none 0 0) sup0 0 0 0 0 0 0 0 0 0))
   have HA:=aa eL.out.1
   have HONE1:=aa (show(aN (cK (X.Dd i) mm zr).2.1 0 (cK (X.Dd i) mm zr).2.2 (.slice none 0 0) sup0 0 0 0 0 0 0 0 0 0).all (·.oneCell')=true by simp [aN,Value.oneCell'])
   go_wp2_with (first| (refine wpList_store_row rfl 46 (.tmp 4) (.tmp 25) rfl (w0.heap.size+1) (aN (cK (X.Dd i) mm zr).2.1 0 (cK (X.Dd i) mm zr).2.2 (.slice none 0 0) sup0 0 0 0 0 0 0 0 0 0) rfl rfl 46 cf HA.out (iF _ _ _ _ _ _ _ _ _ _ _ _ _ _) rfl HONE1.out ?_)| fail)
   refine bodyPost_ret (bf Tryz.results7 _ _ (w0.heap.size+1) 46 _ _ _ (by first| rfl| simp) (setRow_heap _ _ _ _ _ _ HA.out) Tryz.underlying46 rfl (iF _ _ _ _ _ _ _ _ _ _ _ _ _ _)) rfl ?_
   obtain⟨-,z2,z3,z4,z5⟩:=eL.out
   exact⟨X',_,_,_,_,_,_,_,_,_,_,_,_,_,_,_,rfl,⟨Own.nil _ _,fun k e=>by simp [Value.ownBlock]at e⟩,z2,MX.out.1,MX.out.2.1,MX.out.2.2.1,z3,z4,z5,MX.out.2.2.2⟩
 by_cases j12:kd=12
 · subst j12
   have fZ:=aa (show dV P 12 at_ nn mm zr=(P.CE i ((P.D i).arm nn),pb0)from by
     unfold dV
     rw [if_neg (by decide),if_pos rfl,EI.out])
   have mK:=aa (NC w base (X.Fd i) pp (X.Dd i) zJ.out nn (by omega))
   go_wp2_with fail
   refine mK.out.mono ?_
   rintro e w3 ⟨rfl,F',hD3,hF3,hG3⟩
   have Yc:=(TR.out w3 ((hF3.block _ (aC tN.out) (fun q=>zy.out ((X.mem _).2 (by
     rcases(show i=0\/i=1 by omega)with e| e<;>rw [e]at q<;>simp [q])))).trans tN.out)).1
   obtain⟨m1,m2,m3,m4,m5⟩:=QZ lD.out nn
   obtain⟨y1,y2⟩:=pn.out.bY hi (F':=F') (D':=(X.Dd i).arm nn) (by rw [<-mS.out];exact hD3) hF3 hG3 m1 m2 m3 (Or.inl ⟨m4,m5⟩)
   have Bf:=aa m1
   have HY:=aa (And.intro y1 (And.intro y2 (And.intro (hF3.below (fun k hk=>((HH.out.dk i hi).lt k hk).1) (Nat.le_trans HBS0.out fw.out.size)) (EH hi hF3))))
   clear y1 y2 m1 m2 m3 m4 m5 hD3 hF3 hG3 mK k0 k2 k4
   have LD:=aa (show er ((X.Dd i).arm nn)=(P.D i).arm nn from by rw [QY,HV.out.1 i hi])
   have Rb:=aa (show(⟨0,0,false,[],sup0,0,0,0⟩:PB)=pb0 from rfl)
   have eL:=aa (jc HH.out HP.out (HY.out.1.more _ _ (Nat.le_refl _) (Nat.le_succ c)) ((HB1.out.mono lC.out).trans HY.out.2.2.1) ((Fr.ba (F:=X.fp) HB1.out).trans HY.out.2.2.2 (Gr.refl _ _)) (fun q z=>(HY.out.2.1 q z).imp id (fun y=>Nat.le_trans HB1.out.size y)) (aN 0 0 false (.slice none 0 0) sup0 0 0 0 0 0 0 0 0 0))
   have HA:=aa eL.out.1
   have HONE1:=aa (show(aN 0 0 false (.slice none 0 0) sup0 0 0 0 0 0 0 0 0 0).all (·.oneCell')=true by simp [aN,Value.oneCell'])
   go_wp2_with (first| (refine wpList_store_row rfl 46 (.tmp 4) (.tmp 83) rfl (w0.heap.size+1) (aN 0 0 false (.slice none 0 0) sup0 0 0 0 0 0 0 0 0 0) rfl rfl 46 cf HA.out (iF _ _ _ _ _ _ _ _ _ _ _ _ _ _) rfl HONE1.out ?_)| fail)
   refine bodyPost_ret (bf Tryz.results7 _ _ (w0.heap.size+1) 46 _ _ _ (by first| rfl| simp) (setRow_heap _ _ _ _ _ _ HA.out) Tryz.underlying46 rfl (iF _ _ _ _ _ _ _ _ _ _ _ _ _ _)) rfl ?_
   obtain⟨-,z2,z3,z4,z5⟩:=eL.out
   exact⟨(X.bY i F' ((X.Dd i).arm nn)),_,_,_,_,_,_,_,_,_,_,_,_,_,_,_,rfl,⟨Own.nil _ _,fun k e=>by simp [Value.ownBlock]at e⟩,z2,(by rw [fZ.out];exact zL HV.out i F' _ _ (LD.out)),(by rw [fZ.out];exact Rb.out),rfl,z3,z4,z5,(EG X i F' Bf.out)⟩
 by_cases j13:kd=13
 · subst j13
   have fZ:=aa (show dV P 13 at_ nn mm zr=(P.CE i ((P.D i).crashed (zr.take 300)),⟨0,(P.D i).ops.length,false,[],sup0,0,0,0⟩)from by
     unfold dV
     rw [if_neg (by decide),if_neg (by decide),if_pos rfl,EI.out])
   have iD:=aa (eZ w zr sp cap (CC.out w (fw.out.mono HBS0.out)) (by omega) 300 (by omega))
   go_wp2_with fail
   refine iD.out.mono ?_
   rintro e w4 ⟨v4,rfl,hO4,hb4⟩
   obtain⟨s4,c5,rfl,hsrc4,_⟩:=hO4.form
   have Rc:=zf w4 base (X.Fd i) pp (X.Dd i) (zJ.out.below hb4) (by have:=lD.out.ep;omega) (zr.take 300) (fun x hx=>h8 x (List.mem_of_mem_take hx)) s4 c5 hsrc4 (fun a q e z=>by
     have q1:=(zJ.out.lt _ z).2
     subst e
     have q2:=(aH hO4 a.block (by
       obtain⟨_,hx⟩:=hO4
       rcases hx with⟨hn,_⟩| ⟨gg,cc,cur,hn,_⟩
       · injection hn with hn;cases hn
       · injection hn with hn
         injection hn with hn
         subst hn;rfl)).1
     omega)
   rw [List.length_take]at Rc
   have CD:=aa Rc
   have HB4:=aa hb4
   clear Rc hO4 hb4 hsrc4 iD k0 k2 k4
   go_wp2_with fail
   refine CD.out.mono ?_
   rintro e w3 ⟨rfl,F',hD3,hF3,hG3⟩
   obtain⟨m1,m2,m3,m4⟩:=Lt (HH.out.dk i hi).ok lD.out (zr.take 300)
   have hF4:Fr (X.Fd i) w w3:=(Fr.ba (F:=X.Fd i) HB4.out).trans hF3 (Gr.refl _ _)
   have hG4:Gr w (X.Fd i) F':=fun k q=>(hG3 k q).imp id (fun z=>Nat.le_trans HB4.out.size z)
   obtain⟨y1,y2⟩:=pn.out.bY hi (F':=F') (D':=(X.Dd i).crashed (zr.take 300)) (by rw [<-mS.out];exact hD3) hF4 hG4 m1 m2 m3 (Or.inr m4)
   have Bf:=aa m1
   have HY:=aa (And.intro y1 (And.intro y2 (And.intro (hF4.below (fun k hk=>((HH.out.dk i hi).lt k hk).1) (Nat.le_trans HBS0.out fw.out.size)) (EH hi hF4))))
   clear y1 y2 m1 m2 m3 m4 hD3 hF3 hG3 hF4 hG4 CD
   have LD:=aa (show er ((X.Dd i).crashed (zr.take 300))=(P.D i).crashed (zr.take 300)from by rw [<-HV.out.1 i hi];rfl)
   have Rb:=aa (show(⟨0,((X.Dd i).ops.length:Int),false,[],sup0,0,0,0⟩:PB)=⟨0,(P.D i).ops.length,false,[],sup0,0,0,0⟩from by rw [<-HV.out.1 i hi];rfl)
   have eL:=aa (jc HH.out HP.out (HY.out.1.more _ _ (Nat.le_refl _) (Nat.le_succ c)) ((HB1.out.mono lC.out).trans HY.out.2.2.1) ((Fr.ba (F:=X.fp) HB1.out).trans HY.out.2.2.2 (Gr.refl _ _)) (fun q z=>(HY.out.2.1 q z).imp id (fun y=>Nat.le_trans HB1.out.size y)) (aN 0 (X.Dd i).ops.length false (.slice none 0 0) sup0 0 0 0 0 0 0 0 0 0))
   have HA:=aa eL.out.1
   have HONE1:=aa (show(aN 0 (X.Dd i).ops.length false (.slice none 0 0) sup0 0 0 0 0 0 0 0 0 0).all (·.oneCell')=true by simp [aN,Value.oneCell'])
   go_wp2_with (first| (refine wpList_store_row rfl 46 (.tmp 4) (.tmp 40) rfl (w0.heap.size+1) (aN 0 (X.Dd i).ops.length false (.slice none 0 0) sup0 0 0 0 0 0 0 0 0 0) rfl rfl 46 cf HA.out (iF _ _ _ _ _ _ _ _ _ _ _ _ _ _) rfl HONE1.out ?_)| fail)
   refine bodyPost_ret (bf Tryz.results7 _ _ (w0.heap.size+1) 46 _ _ _ (by first| rfl| simp) (setRow_heap _ _ _ _ _ _ HA.out) Tryz.underlying46 rfl (iF _ _ _ _ _ _ _ _ _ _ _ _ _ _)) rfl ?_
   obtain⟨-,z2,z3,z4,z5⟩:=eL.out
   exact⟨(X.bY i F' ((X.Dd i).crashed (zr.take 300))),_,_,_,_,_,_,_,_,_,_,_,_,_,_,_,rfl,⟨Own.nil _ _,fun k e=>by simp [Value.ownBlock]at e⟩,z2,(by rw [fZ.out];exact zL HV.out i F' _ _ (LD.out)),(by rw [fZ.out];exact Rb.out),rfl,z3,z4,z5,(EG X i F' Bf.out)⟩
 by_cases j15:kd=15
 · subst j15
   have fZ:=aa (show dV P 15 at_ nn mm zr=(P,⟨0,0,false,(P.D i).af,sup0,0,0,0⟩)from by
     unfold dV
     rw [if_neg (by decide),if_neg (by decide),if_neg (by decide),if_pos rfl,EI.out])
   have nv:=aa (ze w base (X.Fd i) pp (X.Dd i) zJ.out)
   go_wp2_with fail
   refine nv.out.mono ?_
   rintro e w3 ⟨v3,rfl,hO3,hb3⟩
   obtain⟨s3,c3,rfl,-,-⟩:=hO3.form
   have HO3:=aa hO3
   have HB3:=aa hb3
   clear hO3 hb3 nv k0 k2 k4
   have HOW:Hid (∀cs,Own (w3.setRow (w0.heap.size+1) cs) w0.heap.size (.slice s3 (X.Dd i).af.length c3) (P.D i).af/\ ∀k,(Value.slice s3 (X.Dd i).af.length c3).ownBlock=some k->k∉X.fp):=aa (fun cs=>by
     have e1:=HP.out.sz
     have e2:=HB1.out.size
     have e3:(P.D i).af=(X.Dd i).af:=by rw [<-HV.out.1 i hi];rfl
     rw [e3]
     refine⟨Own.base (HO3.out.of_heap fun k e=>setRow_other _ _ _ _ ?_) (by omega),fun k e z=>?_⟩
     · have:=(aH HO3.out k e).1;omega
     · have:=(aH HO3.out k e).1
       have:=(HH.out.lt z).2
       omega)
   have eL:=aa (jc HH.out HP.out ((pn.out.below HB3.out).more (b+200) (c+1) (by omega) (Nat.le_succ c)) ((HB1.out.mono lC.out).trans (HB3.out.mono (Nat.le_trans HBS0.out fw.out.size))) (Fr.ba (HB1.out.trans (HB3.out.mono HB1.out.size))) (Gr.refl _ _) (aN 0 0 false (.slice s3 (X.Dd i).af.length c3) sup0 0 0 0 0 0 0 0 0 0))
   have HA:=aa eL.out.1
   have HONE1:=aa (show(aN 0 0 false (.slice s3 (X.Dd i).af.length c3) sup0 0 0 0 0 0 0 0 0 0).all (·.oneCell')=true by simp [aN,Value.oneCell'])
   go_wp2_with (first| (refine wpList_store_row rfl 46 (.tmp 4) (.tmp 58) rfl (w0.heap.size+1) (aN 0 0 false (.slice s3 (X.Dd i).af.length c3) sup0 0 0 0 0 0 0 0 0 0) rfl rfl 46 cf HA.out (iF _ _ _ _ _ _ _ _ _ _ _ _ _ _) rfl HONE1.out ?_)| fail)
   refine bodyPost_ret (bf Tryz.results7 _ _ (w0.heap.size+1) 46 _ _ _ (by first| rfl| simp) (setRow_heap _ _ _ _ _ _ HA.out) Tryz.underlying46 rfl (iF _ _ _ _ _ _ _ _ _ _ _ _ _ _)) rfl ?_
   obtain⟨-,z2,z3,z4,z5⟩:=eL.out
   exact⟨X,_,_,_,_,_,_,_,_,_,_,_,_,_,_,_,rfl,HOW.out _,z2,(by rw [fZ.out];exact HV.out),(by rw [fZ.out]),rfl,z3,z4,z5,(fun _ _=>rfl)⟩
 by_cases j16:kd=16
 · subst j16
   have fZ:=aa (show dV P 16 at_ nn mm zr=(P,⟨0,0,false,[],sup0,(P.D i).writes,(P.D i).aA,(P.D i).ops.length⟩)from by
     unfold dV
     rw [if_neg (by decide),if_neg (by decide),if_neg (by decide),if_neg (by decide),if_pos rfl,EI.out])
   have TS:=aa (Fq w base (X.Fd i) pp (X.Dd i) zJ.out)
   clear k2 k4
   go_wp2_with fail
   refine TS.out.mono ?_
   rintro e w3 ⟨rfl,hb3⟩
   have HB3:=aa hb3
   clear hb3 TS k0
   have TT:=aF w3 (.cells #[.int .i64 0, .int .i64 0, .int .i64 0, .int .i64 0] 44)
   have Wp:=aa TT
   have mj:=aa (show(Tryz.prog.info? 44).map (·.size)=some (#[Value.int .i64 (X.Dd i).reads,Value.int .i64 (X.Dd i).writes,Value.int .i64 (X.Dd i).aA,Value.int .i64 (X.Dd i).ops.length]:Array Value).size from by rw [show(Tryz.prog.info? 44).map (·.size)=some 4 by kernel_rfl];rfl)
   have Wq:=aa (show(#[Value.int .i64 (X.Dd i).reads,Value.int .i64 (X.Dd i).writes,Value.int .i64 (X.Dd i).aA,Value.int .i64 (X.Dd i).ops.length]:Array Value).all (·.oneCell')=true from by simp [Value.oneCell'])
   have CD:=aa (aF w3 (.cells (#[Value.int .i64 (X.Dd i).reads,Value.int .i64 (X.Dd i).writes,Value.int .i64 (X.Dd i).aA,Value.int .i64 (X.Dd i).ops.length]:Array Value) 44))
   have HB5:=aa (HB3.out.alloc HB3.out.size (.cells (#[Value.int .i64 (X.Dd i).reads,Value.int .i64 (X.Dd i).writes,Value.int .i64 (X.Dd i).aA,Value.int .i64 (X.Dd i).ops.length]:Array Value) 44))
   have eL:=aa (jc HH.out HP.out ((pn.out.below HB5.out).more (b+200) (c+1) (by omega) (Nat.le_succ c)) ((HB1.out.mono lC.out).trans (HB5.out.mono (Nat.le_trans HBS0.out fw.out.size))) (Fr.ba (HB1.out.trans (HB5.out.mono HB1.out.size))) (Gr.refl _ _) (aN 0 0 false (.slice none 0 0) sup0 0 0 0 0 0 (X.Dd i).reads (X.Dd i).writes (X.Dd i).aA (X.Dd i).ops.length))
   have HA:=aa eL.out.1
   have HONE1:=aa (show(aN 0 0 false (.slice none 0 0) sup0 0 0 0 0 0 (X.Dd i).reads (X.Dd i).writes (X.Dd i).aA (X.Dd i).ops.length).all (·.oneCell')=true by simp [aN,Value.oneCell'])
   clear TT
   go_wp2_with (first
     | (refine wpList_store_row rfl 44 (.tmp 9) (.tmp 64) rfl w3.heap.size (#[Value.int .i64 (X.Dd i).reads,Value.int .i64 (X.Dd i).writes,Value.int .i64 (X.Dd i).aA,Value.int .i64 (X.Dd i).ops.length]:Array Value) rfl rfl 44 _ Wp.out mj.out rfl Wq.out ?_;rw [aP])
     | refine wpList_load_row rfl 44 (.tmp 9) rfl w3.heap.size rfl 44 (#[Value.int .i64 (X.Dd i).reads,Value.int .i64 (X.Dd i).writes,Value.int .i64 (X.Dd i).aA,Value.int .i64 (X.Dd i).ops.length]:Array Value) _ _ CD.out Tryz.underlying44 rfl mj.out ?_
     | refine mF rfl 6 (.tmp 65) rfl (.agg #[Value.int .i64 (X.Dd i).reads,Value.int .i64 (X.Dd i).writes,Value.int .i64 (X.Dd i).aA,Value.int .i64 (X.Dd i).ops.length]) rfl (aN 0 0 false (.slice none 0 0) sup0 0 0 0 0 0 (X.Dd i).reads (X.Dd i).writes (X.Dd i).aA (X.Dd i).ops.length) (Va _ _ _ _) ?_
     | (refine wpList_store_row rfl 46 (.tmp 4) (.tmp 66) rfl (w0.heap.size+1) (aN 0 0 false (.slice none 0 0) sup0 0 0 0 0 0 (X.Dd i).reads (X.Dd i).writes (X.Dd i).aA (X.Dd i).ops.length) rfl rfl 46 cf HA.out (iF _ _ _ _ _ _ _ _ _ _ _ _ _ _) rfl HONE1.out ?_)
     | fail)
   refine bodyPost_ret (bf Tryz.results7 _ _ (w0.heap.size+1) 46 _ _ _ (by first| rfl| simp) (setRow_heap _ _ _ _ _ _ HA.out) Tryz.underlying46 rfl (iF _ _ _ _ _ _ _ _ _ _ _ _ _ _)) rfl ?_
   obtain⟨-,z2,z3,z4,z5⟩:=eL.out
   exact⟨X,_,_,_,_,_,_,_,_,_,_,_,_,_,_,_,rfl,⟨Own.nil _ _,fun k e=>by simp [Value.ownBlock]at e⟩,z2,(by rw [fZ.out];exact HV.out),(by rw [fZ.out];have e3:=HV.out.1 i hi;show(⟨0,0,false,[],sup0,(X.Dd i).writes,(X.Dd i).aA,((X.Dd i).ops.length:Int)⟩:PB)=_;rw [<-e3];rfl),rfl,z3,z4,z5,fun _ _=>rfl⟩
 by_cases jr:kd<2
 · have j0:kd<1:=by omega
   have fZ:=aa (show dV P kd at_ nn mm zr=(P,pb0)from by unfold dV;rw [if_neg (by omega),if_neg (by omega),if_neg (by omega),if_neg (by omega),if_neg (by omega),if_pos (Or.inl jr)])
   have eL:=aa (jc HH.out HP.out ((HH.out.below fw.out).more (b+200) (c+1) (by omega) (Nat.le_succ c)) (HB1.out.mono lC.out) (Fr.ba HB1.out) (Gr.refl _ _) (aN 0 0 false (.slice none 0 0) sup0 0 0 0 0 0 0 0 0 0))
   have HA:=aa eL.out.1
   have HONE1:=aa (show(aN 0 0 false (.slice none 0 0) sup0 0 0 0 0 0 0 0 0 0).all (·.oneCell')=true by simp [aN,Value.oneCell'])
   go_wp2_with (first| (refine wpList_store_row rfl 46 (.tmp 4) (.tmp 83) rfl (w0.heap.size+1) (aN 0 0 false (.slice none 0 0) sup0 0 0 0 0 0 0 0 0 0) rfl rfl 46 cf HA.out (iF _ _ _ _ _ _ _ _ _ _ _ _ _ _) rfl HONE1.out ?_)| fail)
   refine bodyPost_ret (bf Tryz.results7 _ _ (w0.heap.size+1) 46 _ _ _ (by first| rfl| simp) (setRow_heap _ _ _ _ _ _ HA.out) Tryz.underlying46 rfl (iF _ _ _ _ _ _ _ _ _ _ _ _ _ _)) rfl ?_
   obtain⟨-,z2,z3,z4,z5⟩:=eL.out
   exact⟨X,_,_,_,_,_,_,_,_,_,_,_,_,_,_,_,rfl,⟨Own.nil _ _,fun k e=>by simp [Value.ownBlock]at e⟩,z2,(by rw [fZ.out];exact HV.out),(by rw [fZ.out];rfl),rfl,z3,z4,z5,(fun _ _=>rfl)⟩
 by_cases jq:11<kd
 · have HJ:=aa (And.intro j12 (And.intro j13 (And.intro j15 (And.intro j16 h14))))
   have fZ:=aa (show dV P kd at_ nn mm zr=(P,pb0)from by unfold dV;rw [if_neg (by omega),if_neg (by omega),if_neg (by omega),if_neg (by omega),if_neg (by omega),if_pos (Or.inr (Or.inl jq))])
   have eL:=aa (jc HH.out HP.out ((HH.out.below fw.out).more (b+200) (c+1) (by omega) (Nat.le_succ c)) (HB1.out.mono lC.out) (Fr.ba HB1.out) (Gr.refl _ _) (aN 0 0 false (.slice none 0 0) sup0 0 0 0 0 0 0 0 0 0))
   have HA:=aa eL.out.1
   have HONE1:=aa (show(aN 0 0 false (.slice none 0 0) sup0 0 0 0 0 0 0 0 0 0).all (·.oneCell')=true by simp [aN,Value.oneCell'])
   go_wp2_with (first| (refine wpList_store_row rfl 46 (.tmp 4) (.tmp 83) rfl (w0.heap.size+1) (aN 0 0 false (.slice none 0 0) sup0 0 0 0 0 0 0 0 0 0) rfl rfl 46 cf HA.out (iF _ _ _ _ _ _ _ _ _ _ _ _ _ _) rfl HONE1.out ?_)| fail)
   refine bodyPost_ret (bf Tryz.results7 _ _ (w0.heap.size+1) 46 _ _ _ (by first| rfl| simp) (setRow_heap _ _ _ _ _ _ HA.out) Tryz.underlying46 rfl (iF _ _ _ _ _ _ _ _ _ _ _ _ _ _)) rfl ?_
   obtain⟨-,z2,z3,z4,z5⟩:=eL.out
   exact⟨X,_,_,_,_,_,_,_,_,_,_,_,_,_,_,_,rfl,⟨Own.nil _ _,fun k e=>by simp [Value.ownBlock]at e⟩,z2,(by rw [fZ.out];exact HV.out),(by rw [fZ.out];rfl),rfl,z3,z4,z5,(fun _ _=>rfl)⟩
 obtain⟨QR,rf,gt,htl,Wv,-,TU,TV⟩:=pn.out.tl.at
 rw [List.length_map,List.length_range]at htl TU TV
 have c1:w.cell? ⟨X.W.g,1,none⟩=some (.slice QR X.n rf):=by
   rw [cell_of_row _ _ _ _ _ _ pn.out.wo.row,<-htl];rfl
 by_cases jn:X.n=0
 · rw [jn]at c1
   have HN0:=aa (HV.out.2.1▸jn)
   have fZ:=aa (show dV P kd at_ nn mm zr=(P,pb0)from by unfold dV;rw [if_neg (by omega),if_neg (by omega),if_neg (by omega),if_neg (by omega),if_neg (by omega),if_pos (Or.inr (Or.inr HN0.out))])
   have eL:=aa (jc HH.out HP.out ((HH.out.below fw.out).more (b+200) (c+1) (by omega) (Nat.le_succ c)) (HB1.out.mono lC.out) (Fr.ba HB1.out) (Gr.refl _ _) (aN 0 0 false (.slice none 0 0) sup0 0 0 0 0 0 0 0 0 0))
   have HA:=aa eL.out.1
   have HONE1:=aa (show(aN 0 0 false (.slice none 0 0) sup0 0 0 0 0 0 0 0 0 0).all (·.oneCell')=true by simp [aN,Value.oneCell'])
   go_wp2_with (first| (refine wpList_store_row rfl 46 (.tmp 4) (.tmp 83) rfl (w0.heap.size+1) (aN 0 0 false (.slice none 0 0) sup0 0 0 0 0 0 0 0 0 0) rfl rfl 46 cf HA.out (iF _ _ _ _ _ _ _ _ _ _ _ _ _ _) rfl HONE1.out ?_)| fail)
   refine bodyPost_ret (bf Tryz.results7 _ _ (w0.heap.size+1) 46 _ _ _ (by first| rfl| simp) (setRow_heap _ _ _ _ _ _ HA.out) Tryz.underlying46 rfl (iF _ _ _ _ _ _ _ _ _ _ _ _ _ _)) rfl ?_
   obtain⟨-,z2,z3,z4,z5⟩:=eL.out
   exact⟨X,_,_,_,_,_,_,_,_,_,_,_,_,_,_,_,rfl,⟨Own.nil _ _,fun k e=>by simp [Value.ownBlock]at e⟩,z2,(by rw [fZ.out];exact HV.out),(by rw [fZ.out];rfl),rfl,z3,z4,z5,(fun _ _=>rfl)⟩
 obtain⟨rfl,TW⟩:=TU (by omega)
 have hnb:=HH.out.nn
 have Hq:=aa (fun(w':World)=>vC w' at_ (X.n:Int) hat (by omega) (by omega))
 have Yd:=tK at_ (X.n:Int) (by omega)
 obtain⟨k,hk0⟩: ∃k:Nat,eP at_ (X.n:Int)=(k:Int):=⟨(eP at_ (X.n:Int)).toNat,by omega⟩
 rw [hk0]at Hq
 have hk:k<X.n:=by omega
 have i3:(k:Int)<(X.n:Int):=by omega
 have i4:(X.n:Int)<=(rf:Int):=by rw [List.length_map,List.length_range]at Wv;omega
 have Wx:=aa (show(eP at_ P.n).toNat=k by rw [<-HV.out.2.1];omega)
 obtain⟨st0,hst0⟩: ∃st0,st0=(X.so k).st:=⟨_,rfl⟩
 have HST0:=aa hst0
 have ck:w.cell? ⟨gt,k,none⟩=some (.pointer (some ⟨st0,0,none⟩)):=by
   rw [TV k hk,List.getD_eq_getElem?_getD,List.getElem?_map,List.getElem?_range hk,hst0];rfl
 have HS0:Hid (((fun(w':World)=>w'.rangeAt w0.heap.size 0 (aK kd at_ nn mm (.slice sp zr.length cap) bt).toList/\w'.cell? ⟨X.W.g,1,none⟩=some (.slice (some ⟨gt,0,none⟩) X.n rf)/\w'.cell? ⟨gt,k,none⟩=some (.pointer (some ⟨st0,0,none⟩)))) w.drew):=aa ⟨fun j v hv=>by
   rw [Nat.zero_add]
   refine(World.cell?_of_block (a:=⟨w0.heap.size,j,none⟩) (show w.drew.heap[w0.heap.size]? =w.heap[w0.heap.size]? from rfl)).trans ?_
   rw [cell_of_row _ _ _ _ _ _ tN.out,<-hv];simp,c1,ck⟩
 have uN:=aa (pn.out.st k hk)
 have Re:=aa (Oc w.drew base (X.so k) b (uN.out.sk.below (Below.refl _ _).drew) uN.out.gd hb X.W c (pn.out.wo.below (Below.refl _ _).drew) (pn.out.TG hk) hc zr h8 hl kd ⟨by omega,by omega⟩ at_ nn mm sp cap bt (CC.out w.drew ((fw.out.mono HBS0.out).drew)) Ra.out)
 rw [<-hst0]at Re
 have Wy:Hid (∀wX:World,wX.rangeAt w0.heap.size 0 (aK kd at_ nn mm (.slice sp zr.length cap) bt).toList->wX.cell? ⟨w0.heap.size,1,none⟩=some (.int .i64 at_)/\True):=aa (fun wX q=>⟨q 1 _ rfl,trivial⟩)
 have TX:Hid (X.W.g≠w0.heap.size+1/\gt≠w0.heap.size+1):=aa (by
   have q1:=(HH.out.lt ((X.mem _).2 (Or.inl ((X.W.mem X.W.g).2 (by simp))))).2
   have q2:=(HH.out.lt ((X.mem gt).2 (Or.inr (Or.inr (Or.inl TW))))).2
   exact⟨by omega,by omega⟩)
 clear k2 k4 hst0
 go_wp2_with fail
 refine wp_region_noPanic ?_
 refine wp_region_held_drew (S:=fun w'=>w'.rangeAt w0.heap.size 0 (aK kd at_ nn mm (.slice sp zr.length cap) bt).toList/\w'.cell? ⟨X.W.g,1,none⟩=some (.slice (some ⟨gt,0,none⟩) X.n rf)/\w'.cell? ⟨gt,k,none⟩=some (.pointer (some ⟨st0,0,none⟩))) (by kernel_rfl) HS0.out (fun hHeld=>?_)
 refine ai 0 (.pointer (some ⟨X.W.g,0,none⟩)) rfl hHeld ?_
 try go_frame
 refine ai 1 (.pointer (some ⟨X.W.g,0,none⟩)) rfl hHeld ?_
 try go_frame
 refine ai 5 (.pointer (some ⟨w0.heap.size,1,none⟩)) rfl hHeld ?_
 try go_frame
 refine ai 7 (.pointer (some ⟨X.W.g,0,none⟩)) rfl hHeld ?_
 try go_frame
 refine aV 15 (.agg ((aK kd at_ nn mm (.slice sp zr.length cap) bt).toList).toArray) rfl (yieldsIf_load_mid (by rfl) 38 _ rfl w0.heap.size (0) rfl ((aK kd at_ nn mm (.slice sp zr.length cap) bt).toList) _ (fun w hS=>hS.1) Tryz.underlying38 rfl (by rw [fP];rfl)) hHeld ?_
 try go_frame
 refine ai 2 (.pointer (some ⟨X.W.g,0,none⟩)) rfl hHeld ?_
 try go_frame
 refine aV 6 (.int .i64 at_) rfl (yA (by intro w hS;have hc:=(Wy.out _ hS.1).1;go_simp)) hHeld ?_
 try go_frame
 refine ai 8 (.pointer (some ⟨X.W.g,0,none⟩)) rfl hHeld ?_
 try go_frame
 refine ai 3 (.pointer (some ⟨X.W.g,1,none⟩)) rfl hHeld ?_
 try go_frame
 refine ai 9 (.pointer (some ⟨X.W.g,1,none⟩)) rfl hHeld ?_
 try go_frame
 refine aV 4 (.slice (some ⟨gt,0,none⟩) X.n rf) rfl (yA (by intro w hS;have hc:=hS.2.1;go_simp)) hHeld ?_
 try go_frame
 refine aV 10 (.slice (some ⟨gt,0,none⟩) X.n rf) rfl (yA (by intro w hS;have hc:=hS.2.1;go_simp)) hHeld ?_
 try go_frame
 refine ai 11 (.int .i64 X.n) rfl hHeld ?_
 try go_frame
 refine bR 12 rfl (fun K hK=>?_)
 go_simp
 go_at_call 17
 refine(Hq.out _).mono ?_
 rintro e w4 ⟨rfl,rfl⟩
 go_wp2_with fail
 refine hK.out _ _ (hHeld) ?_
 clear hK K hHeld
 intro hHeld
 try go_frame
 refine ai 13 (.pointer (some ⟨gt,0+k,none⟩)) rfl hHeld ?_
 try go_frame
 refine aV 14 (.pointer (some ⟨st0,0,none⟩)) rfl (yA (by intro w hS;have hc:=hS.2.2;go_simp)) hHeld ?_
 try go_frame
 refine bR 16 rfl (fun K hK=>?_)
 go_simp
 go_at_call 24
 refine(Re.out).mono ?_
 rintro e w3 ⟨S',W',E,N,rv,rz,s,t1,t2,t3,t4,t5,rfl,Rf,hA,vI,hW',hr',zI,Wz,hF',hG1,hG2⟩
 have HT:=aa (Ll (uN.out.sk.below (Below.refl _ _).drew) vI uN.out.gd hb uN.out.co hA)
 obtain⟨y1,y2⟩:=(pn.out.below (Below.refl _ _).drew).one hk HT.out vI hW' hr' zI hF' hG1 hG2
 have ru:Fr X.fp w.drew w3:=hF'.xl (fun q hq=>(List.mem_append.1 hq).elim (fun z=>(ib _ _).1 z|>.elim (fun y=>(X.mem q).2 (Or.inr (Or.inr (Or.inr (Or.inr (Or.inr ⟨k,hk,y⟩)))))) (fun y=>CF uN.out.ix (uN.out.F▸y))) (fun z=>(X.mem q).2 (Or.inl z)))
 obtain⟨sv,cv,rfl,-,-⟩:=Rf.1.form
 have eL:=aa (jc HH.out HP.out y1 ((HB1.out.mono lC.out).trans ((Below.refl _ _).drew.trans Wz)) ((Fr.ba (F:=X.fp) (HB1.out.trans (Below.refl _ _).drew)).trans ru (Gr.refl _ _)) (fun q z=>(y2 q z).imp id (fun y=>Nat.le_trans HB1.out.size y)) (cT E N (.slice sv rz.length cv) s t1 t2 t3 t4 t5))
 have HA:=aa eL.out.1
 have Bf:=aa (show S'.D.np=(X.Dd (X.ix k)).np from HT.out.2.2.2.1.np.trans (by rw [uN.out.D]))
 have HOW:=aa (Lx pn.out hk zI Rf.1 Rf.2 fw.out.size HP.out.sz HB1.out.size (cT E N (.slice sv rz.length cv) s t1 t2 t3 t4 t5))
 have TY:=aa (Lu (W':=W') (at_:=at_) (mm:=mm) HV.out hk uN.out.ix uN.out.D ⟨jr,jq⟩ Wx.out HT.out)
 have kC:Hid ((fun(w':World)=>w'.rangeAt w0.heap.size 0 (aK kd at_ nn mm (.slice sp zr.length cap) bt).toList/\w'.cell? ⟨X.W.g,1,none⟩=some (.slice (some ⟨gt,0,none⟩) X.n rf)/\w'.cell? ⟨gt,k,none⟩=some (.pointer (some ⟨st0,0,none⟩))) w3):=aa ⟨fun j v hv=>(World.cell?_of_block (hF'.RX pn.out hk fw.out.size HP.out.sz HB1.out.size zy.out)).trans (HS0.out.1 j v hv),Oo hW' zI htl,(World.cell?_of_block (LB pn.out hk hF' TW)).trans HS0.out.2.2⟩
 have MC:=aa (fun(wx:World) (cs:Array Value) (h:(fun(w':World)=>w'.rangeAt w0.heap.size 0 (aK kd at_ nn mm (.slice sp zr.length cap) bt).toList/\w'.cell? ⟨X.W.g,1,none⟩=some (.slice (some ⟨gt,0,none⟩) X.n rf)/\w'.cell? ⟨gt,k,none⟩=some (.pointer (some ⟨st0,0,none⟩))) wx)=>show(fun(w':World)=>w'.rangeAt w0.heap.size 0 (aK kd at_ nn mm (.slice sp zr.length cap) bt).toList/\w'.cell? ⟨X.W.g,1,none⟩=some (.slice (some ⟨gt,0,none⟩) X.n rf)/\w'.cell? ⟨gt,k,none⟩=some (.pointer (some ⟨st0,0,none⟩))) (wx.setRow (w0.heap.size+1) cs)from⟨fun j v hv=>(World.cell?_of_block (setRow_other _ _ _ _ (Nat.ne_of_lt (Nat.lt_succ_self _)))).trans (h.1 j v hv),(World.cell?_of_block (setRow_other _ _ _ _ (TX.out.1))).trans h.2.1,(World.cell?_of_block (setRow_other _ _ _ _ (TX.out.2))).trans h.2.2⟩)
 go_wp2_with fail
 refine hK.out _ _ (kC.out) ?_
 clear hK K hHeld
 intro hHeld
 try go_frame
 refine bR 17 rfl (fun K hK=>?_)
 refine yC (by rfl) 46 (.tmp 4) (.tmp 100) (by rfl) (w0.heap.size+1) (cT E N (.slice sv rz.length cv) s t1 t2 t3 t4 t5) (by rfl) (by rfl) 46 cf HA.out (ia _ _ _ _ _ _ _ _ _) (by rfl) (oQ _ _ _ _ _ _ _ _ _ _ _) ?_
 refine hK.out _ _ (MC.out _ _ hHeld) ?_
 clear hK K hHeld
 intro hHeld
 try go_frame
 refine dY ?_
 go_wp2_with fail
 refine bodyPost_ret (bf Tryz.results7 _ _ (w0.heap.size+1) 46 _ _ _ (by first| rfl| simp) (setRow_heap _ _ _ _ _ _ HA.out) Tryz.underlying46 rfl (ia _ _ _ _ _ _ _ _ _)) rfl ?_
 obtain⟨-,z2,z3,z4,z5⟩:=eL.out
 rw [RU]at z2 z3 z4⊢
 exact⟨X.step k S' W',_,_,_,_,_,_,_,_,_,_,_,_,_,_,_,rfl,HOW.out,z2,TY.out.1,TY.out.2,zI.1,z3,z4,z5,Ls X k W' Bf.out⟩
end Go.Proofs.YtpdakmhnnkaafaaGreat

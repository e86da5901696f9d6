import Derived.Test.YtpdakmhnnkaafaaGreatR24
import Derived.Test.YtpdakmhnnkaafaaGreatR20
import Derived.Maps.RangeWalk
namespace Go.Proofs.YtpdakmhnnkaafaaGreat
set_option maxRecDepth 100000
set_option maxHeartbeats 40000000
set_option linter.unusedVariables false
set_option linter.unusedSimpArgs false
open Go.RowKit
open Go.Proofs.YtpdakmhnnkaafaaGreat.Ca (Ct ct0 av bV AS)
attribute [local go_sem ↓] Go.wp_at_zero Go.wp_at_succ
def aN(E N:Int)(md:Bool)(rv:Value)(s:aD)(t1 t2 t3 t4 t5 c0 c1 c2 c3:Int):Array Value:= #[.int .i64 E, .int .i64 N, .bool md,rv, .int .i64 s.wd, .int .i64 s.ge, .int .i64 s.ma, .int .i64 s.hd, .int .i64 s.pg, .int .i64 t1, .int .i64 t2, .int .i64 t3, .int .i64 t4, .int .i64 t5, .int .i64 c0, .int .i64 c1, .int .i64 c2, .int .i64 c3]
theorem RU(E N:Int)(rv:Value)(s:aD)(t1 t2 t3 t4 t5:Int):cT E N rv s t1 t2 t3 t4 t5=aN E N false rv s t1 t2 t3 t4 t5 0 0 0 0:=rfl
theorem iF(E N:Int)(md:Bool)(rv:Value)(s:aD)(t1 t2 t3 t4 t5 c0 c1 c2 c3:Int):(Tryz.prog.info? 46).map (·.size)=some (aN E N md rv s t1 t2 t3 t4 t5 c0 c1 c2 c3).size:=by rw [ku];rfl
def kN(E:Int)(md:Bool):Array Value:=aN E 0 md (.slice none 0 0) sup0 0 0 0 0 0 0 0 0 0
theorem jR(E:Int)(md:Bool):(Tryz.prog.info? 46).map (·.size)=some (kN E md).size:=by rw [ku];rfl
theorem tM(E:Int)(md:Bool):(kN E md).all (·.oneCell')=true:=by simp [kN,aN,Value.oneCell']
def Gq(w:World)(base:Nat)(X:WD)(b c i:Nat)(m:Int)(raw:List Int)(e:Ending)(w':World):Prop:= ∃X',e= .returned (.agg (kN (cK (X.Dd i) m raw).2.1 (cK (X.Dd i) m raw).2.2))/\WI w' base X' (b+200) (c+1)∧
 (∀a,a<2->er (X'.Dd a)=if a=i then er (cK (X.Dd i) m raw).1 else er (X.Dd a))/\(X'.n=X.n+(if(cK (X.Dd i) m raw).2.2=true then 1 else 0))/\(∀k,k<X.n->X'.ix k=X.ix k/\bH (X'.so k)=bH (X.so k))/\((cK (X.Dd i) m raw).2.2=true->X'.ix X.n=i/\bH (X'.so X.n)=⟨oq (X.Dd i),(X.Dd i).ag+1,[]⟩)/\X'.W.g=X.W.g/\Below base w w'/\Fr X.fp w w'/\Gr w X.fp X'.fp
theorem jJ{w w2 w6:World}{base:Nat}{X:WD}{b c:Nat}{oc:Array Value}(h:WI w base X b c)(hP:Pn w w2 oc){i:Nat}(hi:i<2){F':List Nat}{D':DS}(hD:DA w6 base F' (X.pd i) D')(hF:Fr (X.Fd i) w2 w6)(hG:Gr w2 (X.Fd i) F')(gI:D'.np=(X.Dd i).np)(rq:DB D' (b+200))(he:(X.Dd i).ag<=D'.ag)(hl:((∀ep,ak D' ep=ak (X.Dd i) ep)/\ ∀q,D'.aj q=(X.Dd i).aj q)\/(X.Dd i).ag<D'.ag):
   WI w6 base (X.bY i F' D') (b+200) c/\Gr w X.fp (X.bY i F' D').fp/\Below base w w6/\Fr X.fp w w6/\w6.heap[w.heap.size+1]? =some (.cells cf 46 (0,0))/\(∀cs,WI (w6.setRow (w.heap.size+1) cs) base (X.bY i F' D') (b+200) c/\Below base w (w6.setRow (w.heap.size+1) cs)/\Fr X.fp w (w6.setRow (w.heap.size+1) cs)):=by
 have hsz:=hP.sz
 have cX:base<=w.heap.size:=by
   have:=(h.lt ((X.mem _).2 (Or.inl ((X.W.mem X.W.g).2 (by simp)))))
   omega
 have Cx: ∀k∈X.Fd i,k∈X.fp:=fun k hk=>(X.mem k).2 (by
   rcases(show i=0\/i=1 by omega)with e| e<;>rw [e]at hk<;>simp [hk])
 have TM: ∀k∈X.Fd i,base<=k/\k<w.heap.size:=fun k hk=>h.lt (Cx k hk)
 have hF0:Fr (X.Fd i) w w6:=by
   have z:=hF.size
   exact⟨hF.os.trans hP.bl.os,hF.tape.trans hP.bl.tape,hF.output.trans hP.bl.output,by omega,fun k a q=>(hF.block k (by omega) q).trans (hP.bl.block k a)⟩
 have hG0:Gr w (X.Fd i) F':=fun k q=>(hG k q).imp id (fun z=>by omega)
 obtain⟨z1,z2⟩:=h.bY hi hD hF0 hG0 gI rq he hl
 have hb6:Below base w w6:=hF0.below (fun k hk=>(TM k hk).1) cX
 have hf6:Fr X.fp w w6:=hF0.xl Cx
 have ha:w6.heap[w.heap.size+1]? =some (.cells cf 46 (0,0)):=(hF.block _ (by omega) (fun q=>by have:=(TM _ q).2;omega)).trans hP.an
 have nn: ∀k∈(X.bY i F' D').fp,k≠w.heap.size+1:=fun k hk e=>by
   have hk2:k∈X.fp\/w2.heap.size<=k:=by
     rcases((X.bY i F' D').mem k).1 hk with q| q| q| q| q| ⟨j,hj,q⟩
     · exact Or.inl ((X.mem k).2 (Or.inl q))
     · exact Or.inl ((X.mem k).2 (Or.inr (Or.inl q)))
     · exact Or.inl ((X.mem k).2 (Or.inr (Or.inr (Or.inl q))))
     · have q2:k∈(if 0=i then F' else X.Fd 0):=q
       by_cases q1:0=i
       · rw [if_pos q1]at q2;exact(hG k q2).imp (Cx k) id
       · rw [if_neg q1]at q2;exact Or.inl ((X.mem k).2 (by simp [q2]))
     · have q2:k∈(if 1=i then F' else X.Fd 1):=q
       by_cases q1:1=i
       · rw [if_pos q1]at q2;exact(hG k q2).imp (Cx k) id
       · rw [if_neg q1]at q2;exact Or.inl ((X.mem k).2 (by simp [q2]))
     · have q2:k∈eC (X.so j):=by
         have e1:eC ((X.bY i F' D').so j)=eC (X.so j):=by
           show eC (if X.ix j=i then{X.so j with F:=F',D:=D'}else X.so j)=_
           by_cases z:X.ix j=i
           · rw [if_pos z];rfl
           · rw [if_neg z]
         rwa [e1]at q
       exact Or.inl ((X.mem k).2 (Or.inr (Or.inr (Or.inr (Or.inr (Or.inr ⟨j,hj,q2⟩))))))
   rcases hk2 with q| q
   · have:=(h.lt q).2;omega
   · omega
 refine⟨z1,z2,hb6,hf6,ha,fun cs=>⟨z1.of_heap (fun k hk=>setRow_other _ _ _ _ (nn k hk)) (by rw [size_setRow];exact Nat.le_refl _),below_setRow hb6 (by omega) cs,?_⟩⟩
 exact⟨hf6.os,hf6.tape,hf6.output,by rw [size_setRow];exact hf6.size,fun k a q=>(setRow_other _ _ _ _ (by omega)).trans (hf6.block k a q)⟩
theorem my{w w':World}{base:Nat}{X:WD}{b c i:Nat}{m:Int}{raw:List Int}(hi:i<2)(F':List Nat)(D':DS)(E:Int)(hR:cK (X.Dd i) m raw=(D',E,false))(hW:WI w' base (X.bY i F' D') (b+200) c)(hB:Below base w w')(hF:Fr X.fp w w')(hG:Gr w X.fp (X.bY i F' D').fp):Gq w base X b c i m raw (.returned (.agg (kN E false))) w':=by
 refine⟨X.bY i F' D',by rw [hR],hW.more _ _ (Nat.le_refl _) (Nat.le_succ c),fun a ha=>?_,by rw [hR];rfl,fun k _=>⟨rfl,ue X i F' D' k⟩,(fun z=>by rw [hR]at z;cases z),rfl,hB,hF,hG⟩
 show er (if a=i then D' else X.Dd a)=_
 rw [hR]
 by_cases q:a=i
 · rw [if_pos q,if_pos q]
 · rw [if_neg q,if_neg q]
theorem WI.QS{w:World}{base:Nat}{X:WD}{b c:Nat}(h:WI w base X b c){k:Nat}{cs:Array Value}(ha:w.heap[k]? =some (.cells cs 46 (0,0))):k∉X.fp:=fun hk=>by
 rcases(X.mem k).1 hk with e| e| e| e| e| ⟨j,hj,e⟩
 · obtain⟨_,_,⟨cs2,t2,a,b⟩| e2⟩:=h.wo.ty e
   · exact cL ha a (by rcases b with q| q| q<;>rw [q]<;>decide) rfl
   · obtain⟨_,cs2,a⟩:=aH h.wo.rm _ e2
     exact cL ha a (by decide) rfl
 · obtain⟨_,cs2,a⟩:=h.dl.ty e
   exact cL ha a (by decide) rfl
 · obtain⟨_,cs2,a⟩:=h.tl.ty e
   exact cL ha a (by decide) rfl
 · exact(h.dk 0 (by decide)).cS ha (by decide) (by decide) (by decide) e
 · exact(h.dk 1 (by decide)).cS ha (by decide) (by decide) (by decide) e
 · exact(h.st j hj).sk.xy ha (by simp) ((ib _ _).2 (Or.inl e))
theorem WI.Jw{w:World}{base:Nat}{X:WD}{b c:Nat}(h:WI w base X b c){k:Nat}{cs:Array Value}(ha:w.heap[k]? =some (.cells cs 46 (0,0)))(cs':Array Value):WI (w.setRow k cs') base X b c:=
 h.of_heap (fun j hj=>setRow_other _ _ _ _ (fun e=>h.QS ha (e▸hj))) (by rw [size_setRow];exact Nat.le_refl _)
theorem vD{w w2 w6 w7:World}{base:Nat}{X:WD}{b c i:Nat}{mm:Int}{zr:List Int}{oc:Array Value}{F':List Nat}{D':DS}{S:au}{v':Value}(h:WI w base X b c)(hP:Pn w w2 oc)(hi:i<2)(hR:cK (X.Dd i) mm zr=(D',0,true))(z1:WI w6 base (X.bY i F' D') (b+200) c)(zG:Gr w X.fp (X.bY i F' D').fp)(zB:Below base w w6)(zF:Fr X.fp w w6)(hs2:w.heap.size+2<=w6.heap.size)(ha6:w6.heap[w.heap.size+1]? =some (.cells cf 46 (0,0)))(hS:SK w6 base S)(SF:S.F=F')(Sp:S.p=X.pd i)(SD:S.D=D')(G:Gd S (b+200))(hc:mR S)(hps:bH S=⟨oq (X.Dd i),(X.Dd i).ag+1,[]⟩)(je:S.ep<=D'.ag)(TN: ∀q∈eC S,w.heap.size+2<=q)(hv:dt w7 base 60 v' (((List.range X.n).map fun k=> .pointer (some ⟨(X.so k).st,0,none⟩))++ [.pointer (some ⟨S.st,0,none⟩)]))(hb7:Below base w6 w7)(hk7: ∀k,k<w6.heap.size->X.W.tl.ownBlock≠some k->w7.heap[k]? =w6.heap[k]?)(hv7:v'.ownBlock=X.W.tl.ownBlock\/ ∃k,v'.ownBlock=some k/\w6.heap.size<=k):
   (w7.setCell ⟨X.W.g,1,none⟩ v').heap[w.heap.size+1]? =some (.cells cf 46 (0,0))/\Gq w base X b c i mm zr (.returned (.agg (kN 0 true))) ((w7.setCell ⟨X.W.g,1,none⟩ v').setRow (w.heap.size+1) (kN 0 true)):=by
 have hrow:w6.heap[X.W.g]? =some (.cells (kH X.W.dl X.W.tl X.W.B X.W.sl X.W.wl X.W.room X.W.turn) 33 (0,0)):=z1.wo.row
 have MT: ∀{k:Nat} {cs:Array Value} {t:TypeId},w6.heap[k]? =some (.cells cs t (0,0))->t≠60->X.W.tl.ownBlock≠some k:=fun a b e=>by
   obtain⟨_,cs2,a2⟩:=z1.tl.ty e
   exact cL a a2 b rfl
 have hrow7:w7.heap[X.W.g]? =some (.cells (kH X.W.dl X.W.tl X.W.B X.W.sl X.W.wl X.W.room X.W.turn) 33 (0,0)):=(hk7 _ (aC hrow) (MT hrow (by decide))).trans hrow
 have kp: ∀k,k≠X.W.g->(w7.setCell ⟨X.W.g,1,none⟩ v').heap[k]? =w7.heap[k]? :=fun k e=>heap_setCell_other w7 ⟨X.W.g,1,none⟩ k _ e
 have tE:w.heap.size+1≠X.W.g:=by have:=(h.lt ((X.mem _).2 (Or.inl ((X.W.mem X.W.g).2 (by simp))))).2;omega
 have QU:(w7.setCell ⟨X.W.g,1,none⟩ v').heap[w.heap.size+1]? =some (.cells cf 46 (0,0)):=(kp _ tE).trans ((hk7 _ (by omega) (MT ha6 (by decide))).trans ha6)
 have hg1:(X.bY i F' D').W.g=X.W.g:=rfl
 have hsz:w6.heap.size<=(w7.setCell ⟨X.W.g,1,none⟩ v').heap.size:=by rw [World.size_setCell];exact hb7.size
 have hmap:((List.range (X.bY i F' D').n).map fun k=>(.pointer (some ⟨((X.bY i F' D').so k).st,0,none⟩):Value))=(List.range X.n).map fun k=> .pointer (some ⟨(X.so k).st,0,none⟩):=by
   refine List.map_congr_left fun j _=>?_
   rw [qo]
 have hv2:dt (w7.setCell ⟨X.W.g,1,none⟩ v') base 60 v' (((List.range (X.bY i F' D').n).map fun k=> .pointer (some ⟨((X.bY i F' D').so k).st,0,none⟩))++ [.pointer (some ⟨S.st,0,none⟩)]):=by
   rw [hmap]
   refine hv.of_heap fun k e=>kp k fun q=>?_
   obtain⟨_,cs,a⟩:=hv.ty e
   rw [q,hrow7]at a
   injection a with a
   injection a with _ a3 _
   exact absurd a3 (by decide)
 have UY: ∀q∈eC S,q∉(X.bY i F' D').fp:=fun q hq z=>by
   have h2:=TN q hq
   have old:q∈X.fp->False:=fun y=>by have:=(h.lt y).2;omega
   have hF:q∉F':=fun y=>hS.Ey q hq (SF▸y)
   rcases((X.bY i F' D').mem q).1 z with e| e| e| e| e| ⟨j,hj,e⟩
   · exact old ((X.mem q).2 (Or.inl e))
   · exact old ((X.mem q).2 (Or.inr (Or.inl e)))
   · exact old ((X.mem q).2 (Or.inr (Or.inr (Or.inl e))))
   · have q2:q∈(if 0=i then F' else X.Fd 0):=e
     by_cases q1:0=i
     · rw [if_pos q1]at q2;exact hF q2
     · rw [if_neg q1]at q2;exact old ((X.mem q).2 (by simp [q2]))
   · have q2:q∈(if 1=i then F' else X.Fd 1):=e
     by_cases q1:1=i
     · rw [if_pos q1]at q2;exact hF q2
     · rw [if_neg q1]at q2;exact old ((X.mem q).2 (by simp [q2]))
   · have e1:eC ((X.bY i F' D').so j)=eC (X.so j):=by
       show eC (if X.ix j=i then{X.so j with F:=F',D:=D'}else X.so j)=_
       by_cases z:X.ix j=i
       · rw [if_pos z];rfl
       · rw [if_neg z]
     rw [e1]at e
     exact old ((X.mem q).2 (Or.inr (Or.inr (Or.inr (Or.inr (Or.inr ⟨j,hj,e⟩))))))
 have UZ:S.ep=(X.Dd i).ag+1:=congrArg PS.ep hps
 have WA:=z1.add (i:=i) hi hS (by rw [SF];show F'=if i=i then F' else _;rw [if_pos rfl]) Sp (by rw [SD];show D'=if i=i then D' else _;rw [if_pos rfl]) G hc (by show S.ep<=(if i=i then D' else X.Dd i).ag;rw [if_pos rfl];exact je) (fun j hj e=>by
   have e1:((X.bY i F' D').so j).ep=(X.so j).ep:=congrArg PS.ep (ue X i F' D' j)
   have e2:=(h.st j hj).ep
   have e3:X.ix j=i:=e
   rw [e3]at e2
   rw [e1,UZ];omega) UY v' hv2 (fun k a b c=>(kp k b).trans (hk7 k a c)) (by
     show(w7.setCell ⟨X.W.g,1,none⟩ v').heap[X.W.g]? =some (.cells (kH X.W.dl v' X.W.B X.W.sl X.W.wl X.W.room X.W.turn) 33 (0,0))
     rw [heap_setCell_same _ _ _ _ _ _ hrow7];rfl) hsz
 have qj:Below base w (w7.setCell ⟨X.W.g,1,none⟩ v'):=(zB.trans hb7).setCell h.wo.hg _
 have TP:X.W.g∈X.fp:=(X.mem _).2 (Or.inl ((X.W.mem X.W.g).2 (by simp)))
 have Jx:Fr X.fp w (w7.setCell ⟨X.W.g,1,none⟩ v'):=by
   refine⟨qj.os,qj.tape,qj.output,qj.size,fun k a q=>?_⟩
   refine(kp k (fun e=>q (e▸TP))).trans ((hk7 k (by omega) (fun e=>q ((X.mem k).2 (Or.inr (Or.inr (Or.inl e)))))).trans (zF.block k a q))
 have cX:base<=w.heap.size+1:=by have:=h.lt TP;omega
 refine⟨QU,(X.bY i F' D').add i S v',by rw [hR],WA.Jw QU _,fun a ha=>?_,by rw [hR];rfl,fun k hk=>⟨?_,?_⟩,fun _=>⟨?_,?_⟩,rfl,below_setRow qj cX _,?_,fun q z=>?_⟩
 · show er (if a=i then D' else X.Dd a)=_
   rw [hR]
   by_cases q:a=i
   · rw [if_pos q,if_pos q]
   · rw [if_neg q,if_neg q]
 · show(if k=X.n then i else X.ix k)=_
   rw [if_neg (by omega)]
 · show bH (if k=X.n then S else(X.bY i F' D').so k)=_
   rw [if_neg (by omega)];exact ue X i F' D' k
 · show(if X.n=X.n then i else X.ix X.n)=i
   rw [if_pos rfl]
 · show bH (if X.n=X.n then S else(X.bY i F' D').so X.n)=_
   rw [if_pos rfl];exact hps
 · exact⟨Jx.os,Jx.tape,Jx.output,by rw [size_setRow];exact Jx.size,fun k a q=>(setRow_other _ _ _ _ (by omega)).trans (Jx.block k a q)⟩
 · rcases(((X.bY i F' D').add i S v').mem q).1 z with e| e| e| e| e| ⟨j,hj,e⟩
   · exact zG q (((X.bY i F' D').mem q).2 (Or.inl e))
   · exact zG q (((X.bY i F' D').mem q).2 (Or.inr (Or.inl e)))
   · have e2:v'.ownBlock=some q:=e
     rcases hv7 with y| ⟨k2,y,l⟩
     · exact Or.inl ((X.mem q).2 (Or.inr (Or.inr (Or.inl (y▸e2)))))
     · rw [y]at e2;injection e2 with e2;exact Or.inr (by omega)
   · exact zG q (((X.bY i F' D').mem q).2 (Or.inr (Or.inr (Or.inr (Or.inl e)))))
   · exact zG q (((X.bY i F' D').mem q).2 (Or.inr (Or.inr (Or.inr (Or.inr (Or.inl e))))))
   · have e2:q∈eC (if j=X.n then S else(X.bY i F' D').so j):=e
     by_cases q1:j=X.n
     · rw [if_pos q1]at e2;exact Or.inr (by have:=TN q e2;omega)
     · rw [if_neg q1]at e2
       exact zG q (((X.bY i F' D').mem q).2 (Or.inr (Or.inr (Or.inr (Or.inr (Or.inr ⟨j,by have:j<X.n+1:=hj;show j<X.n;omega,e2⟩))))))
theorem Cz{D D2:DS}{b:Nat}{s:aD}{m:Nat}{pp g st pc:Nat}{F' FC:List Nat}{ep nn:Int}(hv:aJ s=true)(hm:s.ma=m)(hp:s.pg=(D.np:Int))(hn:D2.np=D.np)(hd:DB D2 (b+200)):Gd (⟨pp,g,st,pc,F',FC,[],D2,s,m,ep,0,Ca.kq nn, .slice none 0 0,[],[],fun _=>(0,[])⟩:au) (b+200):=by
 have v:=(dg _).1 hv
 exact⟨hm.symm,by show s.ma+(([]:List Ct).length:Int)<=(D2.np:Int);simp;omega,hd.np,hv,by show s.pg=(D2.np:Int);rw [hn];exact hp,Nat.zero_le _,hd.rd,hd.wr,hd.sy,hd.op⟩
theorem Lr(w0:World)(base:Nat)(X:WD)(b c:Nat)(h:WI w0 base X b c)(hb:b<=1000000000)(hc:c<=1000000000)(at_ nn mm:Int)(hat: -9223372036854775808<=at_/\at_<=9223372036854775807)(hnn:0<=nn/\nn<=4096)(zr:List Int)(h8:aS zr)(hl:zr.length<=140737488352000)(sp:Option Addr)(l cap bt:Nat)(hlz:l=zr.length)(hS:Src w0 sp cap zr)(eD:0<zr.length-> ∀a,sp=some a->a.block<base):
   Calls Tryz.prog 18 #[.pointer (some ⟨X.W.g,0,none⟩), .agg (aK 1 at_ nn mm (.slice sp l cap) bt)] w0 (Gq w0 base X b c (eP at_ 2).toNat mm zr):=by
 subst hlz
 have QV:=tK at_ 2 (by omega)
 obtain⟨i,hi0⟩: ∃i:Nat,eP at_ 2=(i:Int):=⟨(eP at_ 2).toNat,by omega⟩
 have hi:i<2:=by omega
 have tk:=aa (fun(iG:World)=>vC iG at_ 2 hat (by omega) (by omega))
 rw [hi0]at tk
 have hin:(eP at_ 2).toNat=i:=by omega
 rw [hin]
 clear hin
 obtain⟨w2,hw2⟩: ∃w2,w2=(w0.alloc (.cells (aK 1 at_ nn mm (.slice sp zr.length cap) bt) 38)).alloc (.cells #[.int .i64 0, .int .i64 0, .bool false, .slice none 0 0, .int .i64 0, .int .i64 0, .int .i64 0, .int .i64 0, .int .i64 0, .int .i64 0, .int .i64 0, .int .i64 0, .int .i64 0, .int .i64 0, .int .i64 0, .int .i64 0, .int .i64 0, .int .i64 0] 46):=⟨_,rfl⟩
 have HW2:=aa hw2
 have hP:Pn w0 w2 (aK 1 at_ nn mm (.slice sp zr.length cap) bt):=by rw [hw2];exact Pn.mk' w0 _
 have h2:=h.below hP.bl
 obtain⟨sd,mJ,gd,iC,CB,MW,Jy,hdv⟩:=h2.dl.at
 obtain⟨rfl,hgd⟩:=Jy (Nat.zero_lt_succ _)
 obtain⟨pp,sH⟩: ∃pp,pp=X.pd i:=⟨_,rfl⟩
 have hlt: ∀{k:Nat},k∈X.fp->k<w2.heap.size:=fun hk=>(h2.lt hk).2
 have HL:=aa (show(∀iG,Below w2.heap.size w2 iG->iG.cell? ⟨w0.heap.size,1,none⟩=some (.int .i64 at_))/\(∀iG,Below w2.heap.size w2 iG->iG.cell? ⟨X.W.g,0,none⟩=some (.slice (some ⟨gd,0,none⟩) 2 mJ))/\(∀iG,Below w2.heap.size w2 iG->iG.cell? ⟨gd,i,none⟩=some (.pointer (some ⟨pp,0,none⟩)))from by
   refine⟨fun iG q=>?_,fun iG q=>?_,fun iG q=>?_⟩
   · refine(q.cell (p:=⟨w0.heap.size,1,none⟩) (aC hP.op)).trans ?_
     rw [cell_of_row _ _ _ _ _ _ hP.op];rfl
   · refine(q.cell (p:=⟨X.W.g,0,none⟩) (aC h2.wo.row)).trans ?_
     rw [cell_of_row _ _ _ _ _ _ h2.wo.row]
     show some X.W.dl=_
     rw [iC];rfl
   · refine(q.cell (p:=⟨gd,i,none⟩) (hlt ((X.mem _).2 (Or.inr (Or.inl hgd))))).trans ?_
     refine(hdv i hi).trans ?_
     rcases(show i=0\/i=1 by omega)with e| e<;>subst e<;>rw [sH]<;>rfl)
 have i1:(i:Int)<2:=by omega
 have i2:(2:Int)<=(mJ:Int):=by have:([.pointer (some ⟨X.pd 0,0,none⟩), .pointer (some ⟨X.pd 1,0,none⟩)]:List Value).length<=mJ:=CB;simp at this;omega
 have HP:=aa hP
 have HH:=aa h
 have mS:=aa sH
 have k2:w2.cell? ⟨w0.heap.size,2,none⟩=some (.int .i64 nn):=by rw [cell_of_row _ _ _ _ _ _ hP.op];rfl
 have k3:w2.cell? ⟨w0.heap.size,3,none⟩=some (.int .i64 mm):=by rw [cell_of_row _ _ _ _ _ _ hP.op];rfl
 have k4:w2.cell? ⟨w0.heap.size,4,none⟩=some (.slice sp zr.length cap):=by rw [cell_of_row _ _ _ _ _ _ hP.op];rfl
 have KC:=aa (And.intro k2 (And.intro k3 k4))
 have CC:=aa (fun(wv:World) (q:Below base w0 wv)=>FT hS q eD)
 have lD:=aa (h.dm i hi)
 clear h h2 hP hS eD iC CB MW hgd hdv sH hlt hi0 QV k2 k3 k4 hw2
 go_enter Tryz.func18,Tryz.ntmps18
 go_wp2_with (first
   | refine cQ rfl (.tmp 1) rfl _ at_ nn mm sp zr.length cap bt rfl ?_
   | fail)
 rw [<-HW2.out]
 refine wp_region_noPanic ?_
 refine wp_region_held_drew (S:=fun w'=>Below w2.heap.size w2 w') (by kernel_rfl) (Below.refl _ _).drew (fun hHeld=>?_)
 refine ai 0 (.pointer (some ⟨X.W.g,0,none⟩)) rfl hHeld ?_
 try go_frame
 refine ai 4 (.pointer (some ⟨w0.heap.size,1,none⟩)) rfl hHeld ?_
 try go_frame
 refine ai 1 (.pointer (some ⟨X.W.g,0,none⟩)) rfl hHeld ?_
 try go_frame
 refine aV 5 (.int .i64 at_) rfl (yA (by intro w hS;have hc:=HL.out.1 _ hS;go_simp)) hHeld ?_
 try go_frame
 refine ai 2 (.pointer (some ⟨X.W.g,0,none⟩)) rfl hHeld ?_
 try go_frame
 refine aV 3 (.slice (some ⟨gd,0,none⟩) 2 mJ) rfl (yA (by intro w hS;have hc:=HL.out.2.1 _ hS;go_simp)) hHeld ?_
 try go_frame
 refine bR 6 rfl (fun K hK=>?_)
 go_simp
 go_at_call 17
 refine(tk.out _).mono ?_
 rintro e w4 ⟨rfl,rfl⟩
 go_wp2_with fail
 refine hK.out _ _ (hHeld) ?_
 clear hK K hHeld
 intro hHeld
 try go_frame
 refine ai 7 (.pointer (some ⟨gd,0+i,none⟩)) rfl hHeld ?_
 try go_frame
 refine aV 8 (.pointer (some ⟨pp,0,none⟩)) rfl (yA (by intro w hS;have hc:=HL.out.2.2 _ hS;go_simp)) hHeld ?_
 try go_frame
 refine ai 9 (.pointer (some ⟨pp,0,none⟩)) rfl hHeld ?_
 try go_frame
 refine dY ?_
 obtain⟨k2,k3,k4⟩:=KC.out
 generalize w2.drew=w at*
 have HB1:=aa hHeld
 have c2:=(hHeld.cell (p:=⟨w0.heap.size,2,none⟩) (aC HP.out.op)).trans k2
 have c3:=(hHeld.cell (p:=⟨w0.heap.size,3,none⟩) (aC HP.out.op)).trans k3
 have c4:=(hHeld.cell (p:=⟨w0.heap.size,4,none⟩) (aC HP.out.op)).trans k4
 have zJ:=aa (show DA w base (X.Fd i) pp (X.Dd i)from by rw [mS.out];exact((HH.out.dk i hi).below HP.out.bl).below hHeld)
 have tN:=aa ((hHeld.block _ (aC HP.out.op)).trans HP.out.op)
 clear hHeld k2 k3 k4 HL tk
 by_cases km:mm=2
 · subst km
   go_wp2_with fail
   refine(Lq _ nn).mono ?_
   rintro e w3 ⟨rfl,hb3⟩
   obtain⟨z1,z2,z3,z4,z5,z6⟩:=jJ HH.out HP.out hi (F':=X.Fd i) (D':=X.Dd i) (w6:=w3) (by rw [<-mS.out];exact zJ.out.below hb3) (Fr.ba (HB1.out.trans (hb3.mono HB1.out.size))) (Gr.refl _ _) rfl (lD.out.more _ (by omega)) (Int.le_refl _) (Or.inl ⟨fun _=>rfl,fun _=>rfl⟩)
   have HZ:=aa (z6 (kN 1 false))
   have HA:=aa z5
   have ry:=aa z2
   have kJ:=aa (show cK (X.Dd i) 2 zr=(X.Dd i,1,false)from by unfold cK;rw [if_pos rfl])
   clear z1 z2 z3 z4 z5 z6
   go_wp2_with (first| (refine wpList_store_row rfl 46 (.tmp 4) (.tmp 33) rfl (w0.heap.size+1) (kN 1 false) rfl rfl 46 cf HA.out (jR _ _) rfl (tM _ _) ?_)| fail)
   refine bodyPost_ret (bf Tryz.results18 _ _ (w0.heap.size+1) 46 _ _ _ (by first| rfl| simp) (setRow_heap _ _ _ _ _ _ HA.out) Tryz.underlying46 rfl (jR _ _)) rfl ?_
   exact my hi _ _ 1 kJ.out HZ.out.1 HZ.out.2.1 HZ.out.2.2 ry.out
 have EE:=aa km
 have iJ:=aa (Lp w base (X.Fd i) pp (X.Dd i) zJ.out (by have:=lD.out.rd;omega) (by have:=lD.out.ep;omega))
 by_cases ho:(bL (X.Dd i)).2=0
 · have HO:=aa ho
   clear ho
   go_wp2_with fail
   refine iJ.out.mono ?_
   rintro e w3 ⟨h1,_,hD3,hF3⟩
   obtain⟨g,rfl,hg,hf⟩:=h1 HO.out
   obtain⟨q1,q2,q3,q4⟩:=Jv HO.out
   obtain⟨D1,hD1⟩: ∃D1,D1=(bL (X.Dd i)).1:=⟨_,rfl⟩
   obtain⟨s,hs⟩: ∃s,s=oq (X.Dd i):=⟨_,rfl⟩
   obtain⟨ep,je⟩: ∃ep,ep=(X.Dd i).ag+1:=⟨_,rfl⟩
   rw [<-hD1]at hD3 q1
   rw [<-hs]at q2 q3
   replace hf:FK w3 g pp s s.ma ep:=by rw [hs,je];exact hf
   obtain⟨m,hm⟩: ∃m:Nat,s.ma=m:=⟨s.ma.toNat,by have:=(dg _).1 q2;omega⟩
   have TQ:2<=m/\m<=(X.Dd i).np:=by have:=(dg _).1 q2;omega
   have QW:=aa q2
   have jw:=aa q3
   have tr:=aa hm
   have lY:=aa hs
   have uM:=aa je
   have HD1:=aa hD1
   have HQ1:=aa q1
   have HNP1:=aa (show D1.np=(X.Dd i).np by rw [q1];rfl)
   have EF:w0.heap.size∉X.Fd i:=fun q=>by have:=((HH.out.dk i hi).lt _ q).2;omega
   have zy:=aa EF
   have r3:=(hF3.block _ (aC tN.out) EF).trans tN.out
   have HR3:=aa r3
   have HF0:=aa ((Fr.ba (F:=X.Fd i) HB1.out).trans hF3 (Gr.refl _ _))
   have oZ:=aa (show w2.heap.size<=g/\base<=g from by
     have e1:=HB1.out.size
     have e2:=HP.out.bl.size
     have e3:=(HH.out.lt ((X.mem _).2 (Or.inl ((X.W.mem X.W.g).2 (by simp))))).1
     have e4:=(HH.out.lt ((X.mem _).2 (Or.inl ((X.W.mem X.W.g).2 (by simp))))).2
     omega)
   have HD3:=aa hD3
   have HF:=aa hf
   have hb03:Below base w0 w3:=by
     have e3:=HH.out.lt ((X.mem _).2 (Or.inl ((X.W.mem X.W.g).2 (by simp))))
     have e4:=HP.out.bl.size
     exact(HP.out.bl.mono (by omega)).trans (HF0.out.below (fun k hk=>((HH.out.dk i hi).lt k hk).1) (by omega))
   have HB03:=aa hb03
   have Wm:w3.cell? ⟨w0.heap.size,3,none⟩=some (.int .i64 mm):=by rw [cell_of_row _ _ _ _ _ _ r3];rfl
   have QX:w3.cell? ⟨w0.heap.size,4,none⟩=some (.slice sp zr.length cap):=by rw [cell_of_row _ _ _ _ _ _ r3];rfl
   clear h1 hD3 hF3 hg hf q1 q2 q3 q4 hD1 hs je hm EF r3 c2 c3 c4 hb03 iJ
   by_cases k1:mm=1
   · subst k1
     have iD:=aa (eZ w3 zr sp cap (CC.out w3 HB03.out) (by omega) 300 (by omega))
     go_wp2_with fail
     refine iD.out.mono ?_
     rintro e w4 ⟨v4,rfl,hO4,hb4⟩
     obtain⟨s4,c5,rfl,hsrc4,_⟩:=hO4.form
     have hf4:FK w4 g pp s m ep:=by have:=HF.out.below hb4;rwa [tr.out]at this
     have hap:=(Gn w4 base (X.Fd i) pp D1 (HD3.out.below hb4) (Nat.le_trans (Nat.le_trans oZ.out.2 (Nat.le_of_lt (aC HF.out))) hb4.size) g s ep m hf4 ⟨TQ.1,by rw [HNP1.out];exact TQ.2⟩ 1 (zr.take 300) (fun x hx=>h8 x (List.mem_of_mem_take hx)) s4 c5 hsrc4 (by rw [HQ1.out];have:=lD.out.op;show(X.Dd i).ops.length<_;omega) (by rw [HQ1.out];have:=lD.out.wr;show(X.Dd i).writes<_;omega))
     rw [List.length_take]at hap
     have sY:=aa hap
     have HB4:=aa hb4
     clear hO4 hb4 hsrc4 hf4 iD QX hap
     go_wp2_with fail
     refine sY.out.mono ?_
     rintro e w5 ⟨rfl,F',jb,lr,hF5,hG5⟩
     obtain⟨nx,eY⟩: ∃nx,nx=(mH D1 m ep 1 (zr.take 300)).2.1:=⟨_,rfl⟩
     rw [<-eY]at lr
     obtain⟨D2,ot⟩: ∃D2,D2=(mH D1 m ep 1 (zr.take 300)).1:=⟨_,rfl⟩
     rw [<-ot]at jb
     have hD2:D2=eU D1 1 zr:=by
       unfold eU
       rw [if_pos rfl,ot]
       have e1:oq D1=s:=by rw [HQ1.out,lY.out];rfl
       have e2:D1.ag=ep:=by rw [HQ1.out,uM.out]
       rw [e1,e2,tr.out]
     have e26:=HF0.out.size
     have e34:=HB4.out.size
     have iL:Fr (X.Fd i) w2 w5:=by
       have z5:=hF5.size
       refine⟨hF5.os.trans (HB4.out.os.trans HF0.out.os),hF5.tape.trans (HB4.out.tape.trans HF0.out.tape),hF5.output.trans (HB4.out.output.trans HF0.out.output),by omega,fun k a q=>?_⟩
       refine(hF5.block k (by omega) (fun z=>?_)).trans ((HB4.out.block k (by omega)).trans (HF0.out.block k a q))
       rcases List.mem_cons.1 z with y| y
       · have:=oZ.out.1;omega
       · exact q y
     have pj:Gr w2 (X.Fd i) F':=fun k q=>(hG5 k q).imp id (fun z=>by omega)
     have rA:w5.heap[w0.heap.size]? =some (.cells (aK 1 at_ nn 1 (.slice sp zr.length cap) bt) 38 (0,0)):=(iL.block _ (aC HP.out.op) zy.out).trans HP.out.op
     clear eY ot hF5 hG5 e26 e34 sY
     have XC:w5.cell? ⟨w0.heap.size,3,none⟩=some (.int .i64 1):=by rw [cell_of_row _ _ _ _ _ _ rA];rfl
     have c2:w5.cell? ⟨w0.heap.size,2,none⟩=some (.int .i64 nn):=by rw [cell_of_row _ _ _ _ _ _ rA];rfl
     by_cases hlv:ak D2 ep=0
     · have hR:cK (X.Dd i) 1 zr=(D2,0,true):=by
         unfold cK
         rw [if_neg EE.out,if_neg (fun z=>z HO.out),<-HD1.out,<-hD2,<-uM.out,if_neg (fun z=>z hlv)]
       have N:=kM (HH.out.dk i hi).ok lD.out (by omega) 1 zr
       rw [hR]at N
       have iI:=aa (qN w5 base F' pp D2 jb g s nx ep lr oZ.out.2 hlv nn hnn m tr.out)
       have HN:=aa N
       have HR:=aa hR
       have jK:=aa iL
       have dH:=aa pj
       have xJ:=aa (aC lr)
       have Jz:=aa hlv
       clear N hR hlv jb lr iL pj hD2 rA
       go_wp2_with fail
       refine iI.out.mono ?_
       rintro e w6 ⟨st,pc,FC,rfl,hK,hst,wu,hF6⟩
       have h26:=jK.out.size
       have zK:Fr (X.Fd i) w2 w6:=by
         have z6:=hF6.size
         refine⟨hF6.os.trans jK.out.os,hF6.tape.trans jK.out.tape,hF6.output.trans jK.out.output,by omega,fun k a q=>?_⟩
         refine(hF6.block k (by omega) (fun z=>?_)).trans (jK.out.block k a q)
         rcases List.mem_cons.1 z with y| y
         · have:=oZ.out.1;omega
         · rcases dH.out k y with v| v
           · exact q v
           · omega
       obtain⟨z1,z2,z3,z4,z5,z6⟩:=jJ HH.out HP.out hi (F':=F') (D':=D2) (w6:=w6) (by rw [<-mS.out];exact hK.da) zK dH.out HN.out.1 HN.out.2.1 HN.out.2.2.1 HN.out.2.2.2
       have hrow:w6.heap[X.W.g]? =some (.cells (kH X.W.dl X.W.tl X.W.B X.W.sl X.W.wl X.W.room X.W.turn) 33 (0,0)):=z1.wo.row
       have c1:w6.cell? ⟨X.W.g,1,none⟩=some X.W.tl:=by rw [cell_of_row _ _ _ _ _ _ hrow];rfl
       have sK:=aa (show dt w6 base 60 X.W.tl ((List.range X.n).map fun k=> .pointer (some ⟨(X.so k).st,0,none⟩))from by
         have:=z1.tl
         rwa [show((List.range (X.bY i F' D2).n).map fun k=>(.pointer (some ⟨((X.bY i F' D2).so k).st,0,none⟩):Value))=(List.range X.n).map fun k=> .pointer (some ⟨(X.so k).st,0,none⟩)from by
           refine List.map_congr_left fun j _=>?_
           rw [qo]]at this)
       have JA:=aa (show X.W.tl.ownBlock≠some X.W.g from fun e=>by
         obtain⟨_,cs2,a2⟩:=sK.out.ty e
         exact cL a2 hrow (by decide) rfl)
       have HLEN:=aa (show((List.range X.n).map fun k=>(.pointer (some ⟨(X.so k).st,0,none⟩):Value)).length+ [(.pointer (some ⟨st,0,none⟩):Value)].length<=5000000000000 by have:=HH.out.nn;simp;omega)
       have HROW6:=aa hrow
       have lC:=aa (show base<=w6.heap.size from Nat.le_trans oZ.out.2 (by have:=xJ.out;have:=hF6.size;omega))
       have HS6:=aa (show w0.heap.size+2<=w6.heap.size by have:=HP.out.sz;have:=hF6.size;omega)
       have HZ:=aa (And.intro z1 (And.intro z2 (And.intro z3 (And.intro z4 z5))))
       have qi:=aa hK
       have JB:Hid (∀q∈eC (⟨pp,g,st,pc,F',FC,[],D2,s,m,ep,0,Ca.kq nn, .slice none 0 0,[],[],fun _=>(0,[])⟩:au),w0.heap.size+2<=q):=aa (fun q hq=>by
         have e1:=HP.out.sz
         have e2:=oZ.out.1
         rcases(kK _ q).1 hq with y| y| y| y| y
         · have y2:q=g:=y
           omega
         · have y2:q=st:=y
           omega
         · have:=wu q y;omega
         · exact absurd y (by simp)
         · cases y)
       clear z1 z2 z3 z4 z5 z6 hrow hK hst wu hF6 zK h26
       go_wp2_with (at_builtin;refine mI rfl (.tmp 75) (.tmp 77) rfl base X.W.tl ((List.range X.n).map fun k=> .pointer (some ⟨(X.so k).st,0,none⟩)) [.pointer (some ⟨st,0,none⟩)] rfl sK.out rfl (by intro y hy;rw [List.mem_singleton.1 hy];rfl) HLEN.out lC.out _ _ ?_;intro v' w7 q1 q2 q3 q4;refine Hid.out ?_)
       refine aa ?_
       have hr7:w7.heap[X.W.g]? =some (.cells (kH X.W.dl X.W.tl X.W.B X.W.sl X.W.wl X.W.room X.W.turn) 33 (0,0)):=(q3 _ (aC HROW6.out) JA.out).trans HROW6.out
       have cc1:w7.cell? ⟨X.W.g,1,none⟩=some X.W.tl:=by rw [cell_of_row _ _ _ _ _ _ hr7];rfl
       have ff1:w7.frozen? ⟨X.W.g,1,none⟩=false:=frozen_of_row _ _ _ _ _ hr7
       have hle2:ep<=D2.ag:=by have:=(jg Jz.out).1;omega
       have hps2:bH (⟨pp,g,st,pc,F',FC,[],D2,s,m,ep,0,Ca.kq nn, .slice none 0 0,[],[],fun _=>(0,[])⟩:au)=⟨oq (X.Dd i),(X.Dd i).ag+1,[]⟩:=by
         show(⟨s,ep,[]⟩:PS)=_
         rw [lY.out,uM.out]
       have eL:=aa (vD HH.out HP.out hi HR.out HZ.out.1 HZ.out.2.1 HZ.out.2.2.1 HZ.out.2.2.2.1 HS6.out HZ.out.2.2.2.2 qi.out rfl mS.out rfl (Cz QW.out tr.out jw.out HN.out.1 HN.out.2.1) (fun _ x hx=>by cases hx) hps2 hle2 JB.out q1 q2 q3 q4)
       have HA:=aa eL.out.1
       obtain⟨sa,ca,bz,gZ,-,-,-,-⟩:=q1.at
       simp only [List.length_append,List.length_map,List.length_range,List.length_cons,List.length_nil,Nat.zero_add]at gZ
       subst gZ
       clear q1 q2 q3 q4 hr7 hle2 hps2
       go_wp2_with (first| (refine wpList_store_row rfl 46 (.tmp 4) (.tmp 84) rfl (w0.heap.size+1) (kN 0 true) rfl rfl 46 cf HA.out (jR _ _) rfl (tM _ _) ?_)| fail)
       refine bodyPost_ret (bf Tryz.results18 _ _ (w0.heap.size+1) 46 _ _ _ (by first| rfl| simp) (setRow_heap _ _ _ _ _ _ HA.out) Tryz.underlying46 rfl (jR _ _)) rfl ?_
       exact eL.out.2
     · have hR:cK (X.Dd i) 1 zr=(D2,ak D2 ep,false):=by
         unfold cK
         rw [if_neg EE.out,if_neg (fun z=>z HO.out),<-HD1.out,<-hD2,<-uM.out,if_pos hlv]
       have N:=kM (HH.out.dk i hi).ok lD.out (by omega) 1 zr
       rw [hR]at N
       have iI:=aa (tL w5 base F' pp D2 jb g s nx ep lr _ rfl hlv nn)
       have HN:=aa N
       have HR:=aa hR
       have jK:=aa iL
       have dH:=aa pj
       have JC:=aa jb
       obtain⟨E,hE⟩: ∃E,E=ak D2 ep:=⟨_,rfl⟩
       rw [<-hE]at iI HR hlv
       have hE1:(E==0)=false:=by simpa using hlv
       have hE2:(E !=0)=true:=by simpa using hlv
       clear N hR hlv jb lr iL pj hD2 rA hE
       go_wp2_with fail
       refine iI.out.mono ?_
       rintro e w6 ⟨rfl,hb6⟩
       obtain⟨z1,z2,z3,z4,z5,z6⟩:=jJ HH.out HP.out hi (F':=F') (D':=D2) (w6:=w6) (by rw [<-mS.out];exact JC.out.below hb6) (jK.out.trans (Fr.ba hb6) dH.out) dH.out HN.out.1 HN.out.2.1 HN.out.2.2.1 HN.out.2.2.2
       have HZ:=aa (z6 (kN E false))
       have HA:=aa z5
       have ry:=aa z2
       have kJ:=aa (HR.out)
       clear z1 z2 z3 z4 z5 z6
       go_wp2_with (first| (refine wpList_store_row rfl 46 (.tmp 4) (.tmp 84) rfl (w0.heap.size+1) (kN E false) rfl rfl 46 cf HA.out (jR _ _) rfl (tM _ _) ?_)| fail)
       refine bodyPost_ret (bf Tryz.results18 _ _ (w0.heap.size+1) 46 _ _ _ (by first| rfl| simp) (setRow_heap _ _ _ _ _ _ HA.out) Tryz.underlying46 rfl (jR _ _)) rfl ?_
       exact my hi _ _ E kJ.out HZ.out.1 HZ.out.2.1 HZ.out.2.2 ry.out
   by_cases k3:mm=3
   · subst k3
     have CD:=aa (zf w3 base (X.Fd i) pp D1 HD3.out (by rw [HQ1.out];have:=lD.out.ep;show(X.Dd i).ag+1<_;omega) [] (fun x hx=>by cases hx) none 0 (Src.nil w3) (fun a q=>by cases q))
     go_wp2_with fail
     refine CD.out.mono ?_
     rintro e w5 ⟨rfl,F',jb,hF5,hG5⟩
     have lr:=HF.out.other HD3.out hF5
     obtain⟨nx,eY⟩: ∃nx,nx=s.ma:=⟨_,rfl⟩
     rw [<-eY]at lr
     obtain⟨D2,ot⟩: ∃D2,D2=D1.crashed []:=⟨_,rfl⟩
     rw [<-ot]at jb
     have hD2:D2=eU D1 3 zr:=by
       unfold eU
       rw [if_neg (by decide),if_pos rfl,ot]
     have e26:=HF0.out.size
     have iL:Fr (X.Fd i) w2 w5:=HF0.out.trans hF5 (Gr.refl _ _)
     have pj:Gr w2 (X.Fd i) F':=fun k q=>(hG5 k q).imp id (fun z=>by omega)
     have rA:w5.heap[w0.heap.size]? =some (.cells (aK 1 at_ nn 3 (.slice sp zr.length cap) bt) 38 (0,0)):=(iL.block _ (aC HP.out.op) zy.out).trans HP.out.op
     clear eY ot hF5 hG5 e26 CD Wm QX
     have c2:w5.cell? ⟨w0.heap.size,2,none⟩=some (.int .i64 nn):=by rw [cell_of_row _ _ _ _ _ _ rA];rfl
     by_cases hlv:ak D2 ep=0
     · have hR:cK (X.Dd i) 3 zr=(D2,0,true):=by
         unfold cK
         rw [if_neg EE.out,if_neg (fun z=>z HO.out),<-HD1.out,<-hD2,<-uM.out,if_neg (fun z=>z hlv)]
       have N:=kM (HH.out.dk i hi).ok lD.out (by omega) 3 zr
       rw [hR]at N
       have iI:=aa (qN w5 base F' pp D2 jb g s nx ep lr oZ.out.2 hlv nn hnn m tr.out)
       have HN:=aa N
       have HR:=aa hR
       have jK:=aa iL
       have dH:=aa pj
       have xJ:=aa (aC lr)
       have Jz:=aa hlv
       clear N hR hlv jb lr iL pj hD2 rA
       go_wp2_with fail
       refine iI.out.mono ?_
       rintro e w6 ⟨st,pc,FC,rfl,hK,hst,wu,hF6⟩
       have h26:=jK.out.size
       have zK:Fr (X.Fd i) w2 w6:=by
         have z6:=hF6.size
         refine⟨hF6.os.trans jK.out.os,hF6.tape.trans jK.out.tape,hF6.output.trans jK.out.output,by omega,fun k a q=>?_⟩
         refine(hF6.block k (by omega) (fun z=>?_)).trans (jK.out.block k a q)
         rcases List.mem_cons.1 z with y| y
         · have:=oZ.out.1;omega
         · rcases dH.out k y with v| v
           · exact q v
           · omega
       obtain⟨z1,z2,z3,z4,z5,z6⟩:=jJ HH.out HP.out hi (F':=F') (D':=D2) (w6:=w6) (by rw [<-mS.out];exact hK.da) zK dH.out HN.out.1 HN.out.2.1 HN.out.2.2.1 HN.out.2.2.2
       have hrow:w6.heap[X.W.g]? =some (.cells (kH X.W.dl X.W.tl X.W.B X.W.sl X.W.wl X.W.room X.W.turn) 33 (0,0)):=z1.wo.row
       have c1:w6.cell? ⟨X.W.g,1,none⟩=some X.W.tl:=by rw [cell_of_row _ _ _ _ _ _ hrow];rfl
       have sK:=aa (show dt w6 base 60 X.W.tl ((List.range X.n).map fun k=> .pointer (some ⟨(X.so k).st,0,none⟩))from by
         have:=z1.tl
         rwa [show((List.range (X.bY i F' D2).n).map fun k=>(.pointer (some ⟨((X.bY i F' D2).so k).st,0,none⟩):Value))=(List.range X.n).map fun k=> .pointer (some ⟨(X.so k).st,0,none⟩)from by
           refine List.map_congr_left fun j _=>?_
           rw [qo]]at this)
       have JA:=aa (show X.W.tl.ownBlock≠some X.W.g from fun e=>by
         obtain⟨_,cs2,a2⟩:=sK.out.ty e
         exact cL a2 hrow (by decide) rfl)
       have HLEN:=aa (show((List.range X.n).map fun k=>(.pointer (some ⟨(X.so k).st,0,none⟩):Value)).length+ [(.pointer (some ⟨st,0,none⟩):Value)].length<=5000000000000 by have:=HH.out.nn;simp;omega)
       have HROW6:=aa hrow
       have lC:=aa (show base<=w6.heap.size from Nat.le_trans oZ.out.2 (by have:=xJ.out;have:=hF6.size;omega))
       have HS6:=aa (show w0.heap.size+2<=w6.heap.size by have:=HP.out.sz;have:=hF6.size;omega)
       have HZ:=aa (And.intro z1 (And.intro z2 (And.intro z3 (And.intro z4 z5))))
       have qi:=aa hK
       have JB:Hid (∀q∈eC (⟨pp,g,st,pc,F',FC,[],D2,s,m,ep,0,Ca.kq nn, .slice none 0 0,[],[],fun _=>(0,[])⟩:au),w0.heap.size+2<=q):=aa (fun q hq=>by
         have e1:=HP.out.sz
         have e2:=oZ.out.1
         rcases(kK _ q).1 hq with y| y| y| y| y
         · have y2:q=g:=y
           omega
         · have y2:q=st:=y
           omega
         · have:=wu q y;omega
         · exact absurd y (by simp)
         · cases y)
       clear z1 z2 z3 z4 z5 z6 hrow hK hst wu hF6 zK h26
       go_wp2_with (at_builtin;refine mI rfl (.tmp 75) (.tmp 77) rfl base X.W.tl ((List.range X.n).map fun k=> .pointer (some ⟨(X.so k).st,0,none⟩)) [.pointer (some ⟨st,0,none⟩)] rfl sK.out rfl (by intro y hy;rw [List.mem_singleton.1 hy];rfl) HLEN.out lC.out _ _ ?_;intro v' w7 q1 q2 q3 q4;refine Hid.out ?_)
       refine aa ?_
       have hr7:w7.heap[X.W.g]? =some (.cells (kH X.W.dl X.W.tl X.W.B X.W.sl X.W.wl X.W.room X.W.turn) 33 (0,0)):=(q3 _ (aC HROW6.out) JA.out).trans HROW6.out
       have cc1:w7.cell? ⟨X.W.g,1,none⟩=some X.W.tl:=by rw [cell_of_row _ _ _ _ _ _ hr7];rfl
       have ff1:w7.frozen? ⟨X.W.g,1,none⟩=false:=frozen_of_row _ _ _ _ _ hr7
       have hle2:ep<=D2.ag:=by have:=(jg Jz.out).1;omega
       have hps2:bH (⟨pp,g,st,pc,F',FC,[],D2,s,m,ep,0,Ca.kq nn, .slice none 0 0,[],[],fun _=>(0,[])⟩:au)=⟨oq (X.Dd i),(X.Dd i).ag+1,[]⟩:=by
         show(⟨s,ep,[]⟩:PS)=_
         rw [lY.out,uM.out]
       have eL:=aa (vD HH.out HP.out hi HR.out HZ.out.1 HZ.out.2.1 HZ.out.2.2.1 HZ.out.2.2.2.1 HS6.out HZ.out.2.2.2.2 qi.out rfl mS.out rfl (Cz QW.out tr.out jw.out HN.out.1 HN.out.2.1) (fun _ x hx=>by cases hx) hps2 hle2 JB.out q1 q2 q3 q4)
       have HA:=aa eL.out.1
       obtain⟨sa,ca,bz,gZ,-,-,-,-⟩:=q1.at
       simp only [List.length_append,List.length_map,List.length_range,List.length_cons,List.length_nil,Nat.zero_add]at gZ
       subst gZ
       clear q1 q2 q3 q4 hr7 hle2 hps2
       go_wp2_with (first| (refine wpList_store_row rfl 46 (.tmp 4) (.tmp 84) rfl (w0.heap.size+1) (kN 0 true) rfl rfl 46 cf HA.out (jR _ _) rfl (tM _ _) ?_)| fail)
       refine bodyPost_ret (bf Tryz.results18 _ _ (w0.heap.size+1) 46 _ _ _ (by first| rfl| simp) (setRow_heap _ _ _ _ _ _ HA.out) Tryz.underlying46 rfl (jR _ _)) rfl ?_
       exact eL.out.2
     · have hR:cK (X.Dd i) 3 zr=(D2,ak D2 ep,false):=by
         unfold cK
         rw [if_neg EE.out,if_neg (fun z=>z HO.out),<-HD1.out,<-hD2,<-uM.out,if_pos hlv]
       have N:=kM (HH.out.dk i hi).ok lD.out (by omega) 3 zr
       rw [hR]at N
       have iI:=aa (tL w5 base F' pp D2 jb g s nx ep lr _ rfl hlv nn)
       have HN:=aa N
       have HR:=aa hR
       have jK:=aa iL
       have dH:=aa pj
       have JC:=aa jb
       obtain⟨E,hE⟩: ∃E,E=ak D2 ep:=⟨_,rfl⟩
       rw [<-hE]at iI HR hlv
       have hE1:(E==0)=false:=by simpa using hlv
       have hE2:(E !=0)=true:=by simpa using hlv
       clear N hR hlv jb lr iL pj hD2 rA hE
       go_wp2_with fail
       refine iI.out.mono ?_
       rintro e w6 ⟨rfl,hb6⟩
       obtain⟨z1,z2,z3,z4,z5,z6⟩:=jJ HH.out HP.out hi (F':=F') (D':=D2) (w6:=w6) (by rw [<-mS.out];exact JC.out.below hb6) (jK.out.trans (Fr.ba hb6) dH.out) dH.out HN.out.1 HN.out.2.1 HN.out.2.2.1 HN.out.2.2.2
       have HZ:=aa (z6 (kN E false))
       have HA:=aa z5
       have ry:=aa z2
       have kJ:=aa (HR.out)
       clear z1 z2 z3 z4 z5 z6
       go_wp2_with (first| (refine wpList_store_row rfl 46 (.tmp 4) (.tmp 84) rfl (w0.heap.size+1) (kN E false) rfl rfl 46 cf HA.out (jR _ _) rfl (tM _ _) ?_)| fail)
       refine bodyPost_ret (bf Tryz.results18 _ _ (w0.heap.size+1) 46 _ _ _ (by first| rfl| simp) (setRow_heap _ _ _ _ _ _ HA.out) Tryz.underlying46 rfl (jR _ _)) rfl ?_
       exact my hi _ _ E kJ.out HZ.out.1 HZ.out.2.1 HZ.out.2.2 ry.out
   obtain⟨nx,eY⟩: ∃nx,nx=s.ma:=⟨_,rfl⟩
   obtain⟨D2,ot⟩: ∃D2,D2=D1:=⟨_,rfl⟩
   obtain⟨F',hF'⟩: ∃F',F'=X.Fd i:=⟨_,rfl⟩
   have jb:DA w3 base F' pp D2:=by rw [hF',ot];exact HD3.out
   have lr:FK w3 g pp s nx ep:=by rw [eY];exact HF.out
   have hD2:D2=eU D1 mm zr:=by
     unfold eU
     rw [if_neg k1,if_neg k3,ot]
   have iL:Fr (X.Fd i) w2 w3:=HF0.out
   have pj:Gr w2 (X.Fd i) F':=by rw [hF'];exact Gr.refl _ _
   have rA:w3.heap[w0.heap.size]? =some (.cells (aK 1 at_ nn mm (.slice sp zr.length cap) bt) 38 (0,0)):=HR3.out
   clear eY ot hF' QX
   have c2:w3.cell? ⟨w0.heap.size,2,none⟩=some (.int .i64 nn):=by rw [cell_of_row _ _ _ _ _ _ rA];rfl
   by_cases hlv:ak D2 ep=0
   · have hR:cK (X.Dd i) mm zr=(D2,0,true):=by
       unfold cK
       rw [if_neg EE.out,if_neg (fun z=>z HO.out),<-HD1.out,<-hD2,<-uM.out,if_neg (fun z=>z hlv)]
     have N:=kM (HH.out.dk i hi).ok lD.out (by omega) mm zr
     rw [hR]at N
     have iI:=aa (qN w3 base F' pp D2 jb g s nx ep lr oZ.out.2 hlv nn hnn m tr.out)
     have HN:=aa N
     have HR:=aa hR
     have jK:=aa iL
     have dH:=aa pj
     have xJ:=aa (aC lr)
     have Jz:=aa hlv
     clear N hR hlv jb lr iL pj hD2 rA
     go_wp2_with fail
     refine iI.out.mono ?_
     rintro e w6 ⟨st,pc,FC,rfl,hK,hst,wu,hF6⟩
     have h26:=jK.out.size
     have zK:Fr (X.Fd i) w2 w6:=by
       have z6:=hF6.size
       refine⟨hF6.os.trans jK.out.os,hF6.tape.trans jK.out.tape,hF6.output.trans jK.out.output,by omega,fun k a q=>?_⟩
       refine(hF6.block k (by omega) (fun z=>?_)).trans (jK.out.block k a q)
       rcases List.mem_cons.1 z with y| y
       · have:=oZ.out.1;omega
       · rcases dH.out k y with v| v
         · exact q v
         · omega
     obtain⟨z1,z2,z3,z4,z5,z6⟩:=jJ HH.out HP.out hi (F':=F') (D':=D2) (w6:=w6) (by rw [<-mS.out];exact hK.da) zK dH.out HN.out.1 HN.out.2.1 HN.out.2.2.1 HN.out.2.2.2
     have hrow:w6.heap[X.W.g]? =some (.cells (kH X.W.dl X.W.tl X.W.B X.W.sl X.W.wl X.W.room X.W.turn) 33 (0,0)):=z1.wo.row
     have c1:w6.cell? ⟨X.W.g,1,none⟩=some X.W.tl:=by rw [cell_of_row _ _ _ _ _ _ hrow];rfl
     have sK:=aa (show dt w6 base 60 X.W.tl ((List.range X.n).map fun k=> .pointer (some ⟨(X.so k).st,0,none⟩))from by
       have:=z1.tl
       rwa [show((List.range (X.bY i F' D2).n).map fun k=>(.pointer (some ⟨((X.bY i F' D2).so k).st,0,none⟩):Value))=(List.range X.n).map fun k=> .pointer (some ⟨(X.so k).st,0,none⟩)from by
         refine List.map_congr_left fun j _=>?_
         rw [qo]]at this)
     have JA:=aa (show X.W.tl.ownBlock≠some X.W.g from fun e=>by
       obtain⟨_,cs2,a2⟩:=sK.out.ty e
       exact cL a2 hrow (by decide) rfl)
     have HLEN:=aa (show((List.range X.n).map fun k=>(.pointer (some ⟨(X.so k).st,0,none⟩):Value)).length+ [(.pointer (some ⟨st,0,none⟩):Value)].length<=5000000000000 by have:=HH.out.nn;simp;omega)
     have HROW6:=aa hrow
     have lC:=aa (show base<=w6.heap.size from Nat.le_trans oZ.out.2 (by have:=xJ.out;have:=hF6.size;omega))
     have HS6:=aa (show w0.heap.size+2<=w6.heap.size by have:=HP.out.sz;have:=hF6.size;omega)
     have HZ:=aa (And.intro z1 (And.intro z2 (And.intro z3 (And.intro z4 z5))))
     have qi:=aa hK
     have JB:Hid (∀q∈eC (⟨pp,g,st,pc,F',FC,[],D2,s,m,ep,0,Ca.kq nn, .slice none 0 0,[],[],fun _=>(0,[])⟩:au),w0.heap.size+2<=q):=aa (fun q hq=>by
       have e1:=HP.out.sz
       have e2:=oZ.out.1
       rcases(kK _ q).1 hq with y| y| y| y| y
       · have y2:q=g:=y
         omega
       · have y2:q=st:=y
         omega
       · have:=wu q y;omega
       · exact absurd y (by simp)
       · cases y)
     clear z1 z2 z3 z4 z5 z6 hrow hK hst wu hF6 zK h26
     go_wp2_with (at_builtin;refine mI rfl (.tmp 75) (.tmp 77) rfl base X.W.tl ((List.range X.n).map fun k=> .pointer (some ⟨(X.so k).st,0,none⟩)) [.pointer (some ⟨st,0,none⟩)] rfl sK.out rfl (by intro y hy;rw [List.mem_singleton.1 hy];rfl) HLEN.out lC.out _ _ ?_;intro v' w7 q1 q2 q3 q4;refine Hid.out ?_)
     refine aa ?_
     have hr7:w7.heap[X.W.g]? =some (.cells (kH X.W.dl X.W.tl X.W.B X.W.sl X.W.wl X.W.room X.W.turn) 33 (0,0)):=(q3 _ (aC HROW6.out) JA.out).trans HROW6.out
     have cc1:w7.cell? ⟨X.W.g,1,none⟩=some X.W.tl:=by rw [cell_of_row _ _ _ _ _ _ hr7];rfl
     have ff1:w7.frozen? ⟨X.W.g,1,none⟩=false:=frozen_of_row _ _ _ _ _ hr7
     have hle2:ep<=D2.ag:=by have:=(jg Jz.out).1;omega
     have hps2:bH (⟨pp,g,st,pc,F',FC,[],D2,s,m,ep,0,Ca.kq nn, .slice none 0 0,[],[],fun _=>(0,[])⟩:au)=⟨oq (X.Dd i),(X.Dd i).ag+1,[]⟩:=by
       show(⟨s,ep,[]⟩:PS)=_
       rw [lY.out,uM.out]
     have eL:=aa (vD HH.out HP.out hi HR.out HZ.out.1 HZ.out.2.1 HZ.out.2.2.1 HZ.out.2.2.2.1 HS6.out HZ.out.2.2.2.2 qi.out rfl mS.out rfl (Cz QW.out tr.out jw.out HN.out.1 HN.out.2.1) (fun _ x hx=>by cases hx) hps2 hle2 JB.out q1 q2 q3 q4)
     have HA:=aa eL.out.1
     obtain⟨sa,ca,bz,gZ,-,-,-,-⟩:=q1.at
     simp only [List.length_append,List.length_map,List.length_range,List.length_cons,List.length_nil,Nat.zero_add]at gZ
     subst gZ
     clear q1 q2 q3 q4 hr7 hle2 hps2
     go_wp2_with (first| (refine wpList_store_row rfl 46 (.tmp 4) (.tmp 84) rfl (w0.heap.size+1) (kN 0 true) rfl rfl 46 cf HA.out (jR _ _) rfl (tM _ _) ?_)| fail)
     refine bodyPost_ret (bf Tryz.results18 _ _ (w0.heap.size+1) 46 _ _ _ (by first| rfl| simp) (setRow_heap _ _ _ _ _ _ HA.out) Tryz.underlying46 rfl (jR _ _)) rfl ?_
     exact eL.out.2
   · have hR:cK (X.Dd i) mm zr=(D2,ak D2 ep,false):=by
       unfold cK
       rw [if_neg EE.out,if_neg (fun z=>z HO.out),<-HD1.out,<-hD2,<-uM.out,if_pos hlv]
     have N:=kM (HH.out.dk i hi).ok lD.out (by omega) mm zr
     rw [hR]at N
     have iI:=aa (tL w3 base F' pp D2 jb g s nx ep lr _ rfl hlv nn)
     have HN:=aa N
     have HR:=aa hR
     have jK:=aa iL
     have dH:=aa pj
     have JC:=aa jb
     obtain⟨E,hE⟩: ∃E,E=ak D2 ep:=⟨_,rfl⟩
     rw [<-hE]at iI HR hlv
     have hE1:(E==0)=false:=by simpa using hlv
     have hE2:(E !=0)=true:=by simpa using hlv
     clear N hR hlv jb lr iL pj hD2 rA hE
     go_wp2_with fail
     refine iI.out.mono ?_
     rintro e w6 ⟨rfl,hb6⟩
     obtain⟨z1,z2,z3,z4,z5,z6⟩:=jJ HH.out HP.out hi (F':=F') (D':=D2) (w6:=w6) (by rw [<-mS.out];exact JC.out.below hb6) (jK.out.trans (Fr.ba hb6) dH.out) dH.out HN.out.1 HN.out.2.1 HN.out.2.2.1 HN.out.2.2.2
     have HZ:=aa (z6 (kN E false))
     have HA:=aa z5
     have ry:=aa z2
     have kJ:=aa (HR.out)
     clear z1 z2 z3 z4 z5 z6
     go_wp2_with (first| (refine wpList_store_row rfl 46 (.tmp 4) (.tmp 84) rfl (w0.heap.size+1) (kN E false) rfl rfl 46 cf HA.out (jR _ _) rfl (tM _ _) ?_)| fail)
     refine bodyPost_ret (bf Tryz.results18 _ _ (w0.heap.size+1) 46 _ _ _ (by first| rfl| simp) (setRow_heap _ _ _ _ _ _ HA.out) Tryz.underlying46 rfl (jR _ _)) rfl ?_
     exact my hi _ _ E kJ.out HZ.out.1 HZ.out.2.1 HZ.out.2.2 ry.out
 · obtain⟨E,hE⟩: ∃E,E=(bL (X.Dd i)).2:=⟨_,rfl⟩
   have hR:cK (X.Dd i) mm zr=((bL (X.Dd i)).1,E,false):=by
     unfold cK
     rw [if_neg km,if_pos ho,hE]
   have N:=kM (HH.out.dk i hi).ok lD.out (by omega) mm zr
   rw [hR]at N
   have HN:=aa N
   have HR:=aa hR
   have HE:=aa hE
   have Wn:=aa ho
   have hE1:(E==0)=false:=by rw [hE];simpa using ho
   have hE2:(E !=0)=true:=by rw [hE];simpa using ho
   clear N hR hE ho
   go_wp2_with fail
   refine iJ.out.mono ?_
   rintro e w3 ⟨_,h2,hD3,hF3⟩
   obtain rfl:=h2 Wn.out
   rw [<-HE.out]
   obtain⟨z1,z2,z3,z4,z5,z6⟩:=jJ HH.out HP.out hi (F':=X.Fd i) (D':=(bL (X.Dd i)).1) (w6:=w3) (by rw [<-mS.out];exact hD3) ((Fr.ba (F:=X.Fd i) HB1.out).trans hF3 (Gr.refl _ _)) (Gr.refl _ _) HN.out.1 HN.out.2.1 HN.out.2.2.1 HN.out.2.2.2
   have HZ:=aa (z6 (kN E false))
   have HA:=aa z5
   have ry:=aa z2
   have kJ:=aa (HR.out)
   clear z1 z2 z3 z4 z5 z6
   go_wp2_with (first| (refine wpList_store_row rfl 46 (.tmp 4) (.tmp 48) rfl (w0.heap.size+1) (kN E false) rfl rfl 46 cf HA.out (jR _ _) rfl (tM _ _) ?_)| fail)
   refine bodyPost_ret (bf Tryz.results18 _ _ (w0.heap.size+1) 46 _ _ _ (by first| rfl| simp) (setRow_heap _ _ _ _ _ _ HA.out) Tryz.underlying46 rfl (jR _ _)) rfl ?_
   exact my hi _ _ E kJ.out HZ.out.1 HZ.out.2.1 HZ.out.2.2 ry.out
end Go.Proofs.YtpdakmhnnkaafaaGreat

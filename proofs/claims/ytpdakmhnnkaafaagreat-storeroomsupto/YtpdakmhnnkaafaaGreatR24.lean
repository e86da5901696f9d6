import Derived.Test.YtpdakmhnnkaafaaGreatR23
import Derived.Maps.RangeWalk
import Derived.Test.YtpdakmhnnkaafaaGreatR10
import Derived.ArgAppend
namespace Go.Proofs.YtpdakmhnnkaafaaGreat
set_option maxRecDepth 100000
set_option maxHeartbeats 40000000
set_option linter.unusedVariables false
set_option linter.unusedSimpArgs false
open Go.RowKit
open Go.Proofs.YtpdakmhnnkaafaaGreat.Ca (Ct ct0 av bV AS)
def WD.bY(X:WD)(i:Nat)(F':List Nat)(D':DS):WD:=
 {W:=X.W,pd:=X.pd,Fd:=fun a=>if a=i then F' else X.Fd a,Dd:=fun a=>if a=i then D' else X.Dd a,n:=X.n,ix:=X.ix,so:=fun j=>if X.ix j=i then{X.so j with F:=F',D:=D'}else X.so j}
theorem qo(X:WD)(i:Nat)(F':List Nat)(D':DS)(j:Nat):((X.bY i F' D').so j).st=(X.so j).st:=by
 show(if X.ix j=i then{X.so j with F:=F',D:=D'}else X.so j).st=_
 by_cases z:X.ix j=i
 · rw [if_pos z]
 · rw [if_neg z]
theorem ue(X:WD)(i:Nat)(F':List Nat)(D':DS)(j:Nat):bH ((X.bY i F' D').so j)=bH (X.so j):=by
 show bH (if X.ix j=i then{X.so j with F:=F',D:=D'}else X.so j)=_
 by_cases z:X.ix j=i
 · rw [if_pos z];rfl
 · rw [if_neg z]
theorem WI.bY{w w':World}{base:Nat}{X:WD}{b c:Nat}(h:WI w base X b c){i:Nat}(hi:i<2){F':List Nat}{D':DS}(hD:DA w' base F' (X.pd i) D')(hF:Fr (X.Fd i) w w')(hG:Gr w (X.Fd i) F')(gI:D'.np=(X.Dd i).np)(rq:DB D' (b+200))(he:(X.Dd i).ag<=D'.ag)(hl:((∀ep,ak D' ep=ak (X.Dd i) ep)/\ ∀q,D'.aj q=(X.Dd i).aj q)\/(X.Dd i).ag<D'.ag):
   WI w' base (X.bY i F' D') (b+200) c/\Gr w X.fp (X.bY i F' D').fp:=by
 have Ez: ∀j,j<X.n-> ∀q∈eC (X.so j),q<w.heap.size:=fun j hj q hq=>((h.st j hj).sk.cF ((ib _ _).2 (Or.inl hq))).2
 have EA: ∀i,i<2-> ∀q∈X.Fd i,q<w.heap.size:=fun i hi2 q hq=>((h.dk i hi2).lt q hq).2
 have xH: ∀j,j<X.n-> ∀q∈eC (X.so j),w'.heap[q]? =w.heap[q]? :=fun j hj q hq=>hF.block q (Ez j hj q hq) (h.sd j hj i hi q hq)
 have xI: ∀a,a<2->a≠i-> ∀q∈X.Fd a,w'.heap[q]? =w.heap[q]? :=fun a ha hn q hq=>hF.block q (EA a ha q hq) (h.df a i ha hi hn q hq)
 have vB: ∀j,j<X.n-> ∀q∈eC (X.so j),q∉F':=fun j hj q hq z=>by
   rcases hG q z with y| y
   · exact h.sd j hj i hi q hq y
   · have:=Ez j hj q hq;omega
 have dy: ∀a,a<2->a≠i-> ∀q∈X.Fd a,q∉F':=fun a ha hn q hq z=>by
   rcases hG q z with y| y
   · exact h.df a i ha hi hn q hq y
   · have:=EA a ha q hq;omega
 have kL: ∀a,(X.bY i F' D').Fd a=if a=i then F' else X.Fd a:=fun _=>rfl
 have oh: ∀a,(X.bY i F' D').Dd a=if a=i then D' else X.Dd a:=fun _=>rfl
 have jV: ∀j,(X.bY i F' D').so j=if X.ix j=i then{X.so j with F:=F',D:=D'}else X.so j:=fun _=>rfl
 have om: ∀j,eC ((X.bY i F' D').so j)=eC (X.so j):=fun j=>by
   rw [jV]
   by_cases z:X.ix j=i
   · rw [if_pos z];rfl
   · rw [if_neg z]
 have je: ∀j,((X.bY i F' D').so j).ep=(X.so j).ep:=fun j=>by
   rw [jV]
   by_cases z:X.ix j=i
   · rw [if_pos z]
   · rw [if_neg z]
 have hrow: ∀{t:TypeId} {v:Value} {vs:List Value},dt w base t v vs->(t=50\/t=60)->dt w' base t v vs:=fun hp ht=>hp.of_heap fun q e=>by
   obtain⟨_,cs,a⟩:=hp.ty e
   exact hF.block q (aC a) ((h.dk i hi).cS a (by rcases ht with r| r<;>rw [r]<;>decide) (by rcases ht with r| r<;>rw [r]<;>decide) (by rcases ht with r| r<;>rw [r]<;>decide))
 have Wi: ∀q∈X.W.fp,q∉X.Fd i:=fun q hq=>h.wo.Lm (h.dk i hi) (fun k2 e=>h.rd k2 e i hi) hq
 refine⟨⟨h.wo.keep fun q hq=>hF.block q (h.wo.ty hq).2.1 (Wi q hq),fun a ha=>?_,fun a ha=>?_,fun a a2 ha ha2 hn=>?_,fun j hj=>?_,fun j l hj hl hn=>?_,fun j l hj hl hn e=>?_,fun j hj a ha=>?_,fun q e a ha=>?_,fun q e j hj=>?_,hrow h.dl (Or.inl rfl),?_,h.nn⟩,fun q z=>?_⟩
 · rw [kL,oh]
   by_cases q:a=i
   · rw [if_pos q,if_pos q,q];exact hD
   · rw [if_neg q,if_neg q];exact(h.dk a ha).of_heap (xI a ha q)
 · rw [oh]
   by_cases q:a=i
   · rw [if_pos q];exact rq
   · rw [if_neg q];exact(h.dm a ha).more _ (by omega)
 · rw [kL,kL]
   by_cases q1:a=i
   · rw [if_pos q1,if_neg (fun z=>hn (q1.trans z.symm))]
     exact fun q z y=>dy a2 ha2 (fun e=>hn (q1.trans e.symm)) q y z
   · rw [if_neg q1]
     by_cases q2:a2=i
     · rw [if_pos q2];exact fun q z y=>dy a ha q1 q z y
     · rw [if_neg q2];exact h.df a a2 ha ha2 hn
 · have sj:=h.st j hj
   by_cases z:X.ix j=i
   · have e1:(X.bY i F' D').so j={X.so j with F:=F',D:=D'}:=by rw [jV,if_pos z]
     have e2:(X.bY i F' D').ix j=i:=z
     have e3:(X.so j).D=X.Dd i:=by rw [sj.D,z]
     have gd:=sj.gd
     have d1:=gd.fit;have d2:=gd.np;have d3:=gd.pg;have d8:=gd.N
     rw [e3]at d1 d2 d3
     refine⟨sj.ix,?_,by rw [e1,e2,kL,if_pos rfl],by rw [e1,e2];show(X.so j).p=X.pd i;rw [sj.p,z],by rw [e1,e2,oh,if_pos rfl],?_,?_,?_⟩
     · rw [e1]
       refine sj.sk.Ju ?_ (xH j hj) (fun y hy v=>vB j hj y hy v)
       rw [sj.p,z];exact hD
     · rw [e1]
       have b1:=rq.rd;have b2:=rq.wr;have b3:=rq.sy;have b4:=rq.op
       exact⟨gd.nx,by show(X.so j).s.ma+((X.so j).aB.length:Int)<=(D'.np:Int);omega,by show D'.np<=64;omega,gd.val,by show(X.so j).s.pg=(D'.np:Int);omega,by show(X.so j).N<=_;omega,b1,b2,b3,b4⟩
     · rw [e1]
       rcases hl with⟨l1,l2⟩| l1
       · exact qm (S':={X.so j with F:=F',D:=D'}) sj.co (fun q=>by rw [e3];exact l2 q) (fun l=>by rw [e3,<-l1];exact l) rfl (fun x hx=>hx)
       · intro l
         exfalso
         have l2:=(jg (show ak D' (X.so j).ep=0 from l)).1
         have l3:=sj.ep
         rw [z]at l3
         omega
     · rw [e1,e2,oh,if_pos rfl]
       have l3:=sj.ep
       rw [z]at l3
       show(X.so j).ep<=D'.ag
       omega
   · have e1:(X.bY i F' D').so j=X.so j:=by rw [jV,if_neg z]
     have e2:(X.bY i F' D').ix j=X.ix j:=rfl
     refine⟨sj.ix,?_,by rw [e1,e2,kL,if_neg z];exact sj.F,by rw [e1];exact sj.p,by rw [e1,e2,oh,if_neg z];exact sj.D,by rw [e1];exact sj.gd.more _ (by omega),by rw [e1];exact sj.co,by rw [e1,e2,oh,if_neg z];exact sj.ep⟩
     rw [e1]
     refine sj.sk.lh (fun y hy=>?_) hF.size
     rcases(ib _ _).1 hy with v| v
     · exact xH j hj y v
     · exact xI _ sj.ix z y (sj.F▸v)
 · rw [om,om];exact h.sp j l hj hl hn
 · rw [je,je];exact h.se j l hj hl hn e
 · rw [om,kL]
   by_cases q2:a=i
   · rw [if_pos q2];exact fun q z y=>vB j hj q z y
   · rw [if_neg q2];exact h.sd j hj a ha
 · rw [kL]
   by_cases q2:a=i
   · rw [if_pos q2]
     intro z
     rcases hG q z with y| y
     · exact h.rd q e i hi y
     · have:=(h.wo.ty ((X.W.mem q).2 (by simp [show X.W.room.ownBlock=some q from e]))).2.1;omega
   · rw [if_neg q2];exact h.rd q e a ha
 · rw [om];exact h.rs q e j hj
 · show dt w' base 60 X.W.tl ((List.range X.n).map fun j=> .pointer (some ⟨((X.bY i F' D').so j).st,0,none⟩))
   have e:(List.range X.n).map (fun j=>(.pointer (some ⟨((X.bY i F' D').so j).st,0,none⟩):Value))=(List.range X.n).map (fun j=> .pointer (some ⟨(X.so j).st,0,none⟩)):=by
     refine List.map_congr_left fun j _=>?_
     rw [qo]
   rw [e];exact hrow h.tl (Or.inr rfl)
 · have Cx: ∀q,q∈F'->q∈X.fp\/w.heap.size<=q:=fun q y=>(hG q y).imp (fun v=>(X.mem q).2 (by
     rcases(show i=0\/i=1 by omega)with e| e<;>rw [e]at v<;>simp [v])) id
   rcases((X.bY i F' D').mem q).1 z with e| e| e| e| e| ⟨j,hj,e⟩
   · exact Or.inl ((X.mem q).2 (Or.inl e))
   · exact Or.inl ((X.mem q).2 (Or.inr (Or.inl e)))
   · exact Or.inl ((X.mem q).2 (Or.inr (Or.inr (Or.inl e))))
   · rw [kL]at e
     by_cases q1:0=i
     · rw [if_pos q1]at e;exact Cx q e
     · rw [if_neg q1]at e;exact Or.inl ((X.mem q).2 (by simp [e]))
   · rw [kL]at e
     by_cases q1:1=i
     · rw [if_pos q1]at e;exact Cx q e
     · rw [if_neg q1]at e;exact Or.inl ((X.mem q).2 (by simp [e]))
   · rw [om]at e
     exact Or.inl ((X.mem q).2 (Or.inr (Or.inr (Or.inr (Or.inr (Or.inr ⟨j,hj,e⟩))))))
end Go.Proofs.YtpdakmhnnkaafaaGreat
namespace Go.Proofs.YtpdakmhnnkaafaaGreat
set_option maxRecDepth 100000
set_option maxHeartbeats 40000000
set_option linter.unusedVariables false
set_option linter.unusedSimpArgs false
open Go.RowKit
attribute [local go_sem ↓] Go.wp_at_zero Go.wp_at_succ
def mH(D:DS)(nx ep kd:Int)(l:List Int):DS×Int×Int×Int:=
 if ak D ep≠0 then(D,nx,0,ak D ep)
 else if kindOk kd=false then(D,nx,0,50)
 else if 246<l.length then(D,nx,0,51)
 else if(D.np:Int)<=nx then(D,nx,0,5)
 else if D.armed=1 then(D.wr ⟨nx.toNat,cy kd nx l⟩,nx,0,2)
 else(D.wr ⟨nx.toNat,cy kd nx l⟩,nx+1,nx,0)
theorem DL(w:World)(base:Nat)(F:List Nat)(p:Nat)(D:DS)(h:DA w base F p D)(g:Nat)(s:aD)(nx ep:Int)(hf:FK w g p s nx ep)(x:Int)(hlv:ak D ep=x)(hx:x≠0)(kd:Int)(sp:Option Addr)(l cap:Nat):
   Calls Tryz.prog 42 #[.pointer (some ⟨g,0,none⟩), .int .i64 kd, .slice sp l cap] w fun e w'=>e= .returned (.tuple #[.int .i64 0, .int .i64 x])/\Below w.heap.size w w':=by
 have HL:=aa (gD w base F p D h g s nx ep hf)
 rw [hlv]at HL
 have hz:(x !=0)=true:=by simpa using hx
 clear h hf hlv hx
 go_enter Tryz.func42,Tryz.ntmps42
 go_wp2_with (first| (go_at_call 31;refine HL.out.mono ?_;rintro e w1 ⟨rfl,hb1⟩))
 go_ret2
 exact⟨rfl,hb1⟩
theorem DM(w:World)(base:Nat)(F:List Nat)(p:Nat)(D:DS)(h:DA w base F p D)(g:Nat)(s:aD)(nx ep:Int)(hf:FK w g p s nx ep)(hlv:ak D ep=0)(kd:Int)(hk:kd<1\/3<kd)(sp:Option Addr)(l cap:Nat):
   Calls Tryz.prog 42 #[.pointer (some ⟨g,0,none⟩), .int .i64 kd, .slice sp l cap] w fun e w'=>e= .returned (.tuple #[.int .i64 0, .int .i64 50])/\Below w.heap.size w w':=by
 have HL:=aa (gD w base F p D h g s nx ep hf)
 rw [hlv]at HL
 clear h hf hlv
 by_cases c:kd<1
 · clear hk
   go_enter Tryz.func42,Tryz.ntmps42
   go_wp2_with (first| (go_at_call 31;refine HL.out.mono ?_;rintro e w1 ⟨rfl,hb1⟩))
   go_ret2
   exact⟨rfl,hb1⟩
 · have c2:3<kd:=by omega
   clear hk
   go_enter Tryz.func42,Tryz.ntmps42
   go_wp2_with (first| (go_at_call 31;refine HL.out.mono ?_;rintro e w1 ⟨rfl,hb1⟩))
   go_ret2
   exact⟨rfl,hb1⟩
theorem DN(w:World)(base:Nat)(F:List Nat)(p:Nat)(D:DS)(h:DA w base F p D)(g:Nat)(s:aD)(nx ep:Int)(hf:FK w g p s nx ep)(hlv:ak D ep=0)(kd:Int)(k1:1<=kd)(k3:kd<=3)(sp:Option Addr)(l cap:Nat)(hl:246<(l:Int)):
   Calls Tryz.prog 42 #[.pointer (some ⟨g,0,none⟩), .int .i64 kd, .slice sp l cap] w fun e w'=>e= .returned (.tuple #[.int .i64 0, .int .i64 51])/\Below w.heap.size w w':=by
 have HL:=aa (gD w base F p D h g s nx ep hf)
 rw [hlv]at HL
 clear h hf hlv
 go_enter Tryz.func42,Tryz.ntmps42
 go_wp2_with (first| (go_at_call 31;refine HL.out.mono ?_;rintro e w1 ⟨rfl,hb1⟩))
 go_ret2
 exact⟨rfl,hb1⟩
theorem DR(w:World)(base:Nat)(F:List Nat)(p:Nat)(D:DS)(h:DA w base F p D)(g:Nat)(s:aD)(q:Nat)(ep:Int)(hf:FK w g p s q ep)(hlv:ak D ep=0)(hq:q=D.np)(kd:Int)(k1:1<=kd)(k3:kd<=3)(sp:Option Addr)(l cap:Nat)(kQ:(l:Int)<=246):
   Calls Tryz.prog 42 #[.pointer (some ⟨g,0,none⟩), .int .i64 kd, .slice sp l cap] w fun e w'=>e= .returned (.tuple #[.int .i64 0, .int .i64 5])/\Below w.heap.size w w':=by
 have HL:=aa (gD w base F p D h g s q ep hf)
 rw [hlv]at HL
 have HD:=aa h
 have HF:=aa hf
 have PC:((q:Int)==(D.np:Int))=true:=by rw [hq];simp
 clear h hf hlv hq
 go_enter Tryz.func42,Tryz.ntmps42
 go_wp2_with fail
 refine HL.out.mono ?_
 rintro e w1 ⟨rfl,hb1⟩
 have HB1:=aa hb1
 have HD1:=aa (HD.out.below hb1)
 have HK1:=aa (HF.out.below hb1)
 have hgl1:g<w1.heap.size:=aC HK1.out
 have c0:=aa (show w1.cell? ⟨g,0,none⟩=some (.pointer (some ⟨p,0,none⟩))from HK1.out.cell 0)
 have c6:=aa (show w1.cell? ⟨g,6,none⟩=some (.int .i64 (q:Int))from HK1.out.cell 6)
 clear hb1 HL
 go_wp2
 refine wp_region_noPanic ?_
 refine wp_region_held_drew (S:=fun w'=>Below w1.heap.size w1 w') (by kernel_rfl) (Below.refl _ _).drew (fun hHeld=>?_)
 refine ai 0 (.pointer (some ⟨g,0,none⟩)) rfl hHeld ?_
 try go_frame
 refine ai 4 (.pointer (some ⟨g,0,none⟩)) rfl hHeld ?_
 try go_frame
 refine ai 1 (.pointer (some ⟨g,0,none⟩)) rfl hHeld ?_
 try go_frame
 refine ai 5 (.pointer (some ⟨g,0,none⟩)) rfl hHeld ?_
 try go_frame
 refine ai 2 (.pointer (some ⟨g,6,none⟩)) rfl hHeld ?_
 try go_frame
 refine ai 6 (.pointer (some ⟨g,0,none⟩)) rfl hHeld ?_
 try go_frame
 refine aV 3 (.int .i64 (q:Int)) rfl (yA (by intro w hS;have hc:=(hS.cell (p:=⟨g,6,none⟩) hgl1).trans c6.out;go_simp)) hHeld ?_
 try go_frame
 refine aV 7 (.pointer (some ⟨p,0,none⟩)) rfl (yA (by intro w hS;have hc:=(hS.cell (p:=⟨g,0,none⟩) hgl1).trans c0.out;go_simp)) hHeld ?_
 try go_frame
 refine bR 8 rfl (fun K hK=>?_)
 go_simp
 go_at_call 29
 refine(kA _ base F p D (HD1.out.below hHeld)).mono ?_
 rintro e w4 ⟨rfl,rfl⟩
 go_wp2_with fail
 refine hK.out _ _ (hHeld) ?_
 clear hK K hHeld
 intro hHeld
 try go_frame
 refine aV 9 (.bool true) rfl (yA (by intro w hS;(have he2:=PC;go_simp))) hHeld ?_
 try go_frame
 refine dY ?_
 go_wp2
 go_ret2
 exact⟨rfl,HB1.out.trans (hHeld.mono HB1.out.size)⟩
theorem Gn(w:World)(base:Nat)(F:List Nat)(p:Nat)(D:DS)(h:DA w base F p D)(cX:base<=w.heap.size)(g:Nat)(s:aD)(ep:Int)(q:Nat)(hf:FK w g p s q ep)(hq:2<=q/\q<=D.np)(kd:Int)(l:List Int)(h8:aS l)(sp:Option Addr)(cap:Nat)(hS:Src w sp cap l)(mA:D.ops.length<400000000000)(hwr:D.writes<4000000000000000000):
   Calls Tryz.prog 42 #[.pointer (some ⟨g,0,none⟩), .int .i64 kd, .slice sp l.length cap] w fun e w'=>e= .returned (.tuple #[.int .i64 (mH D q ep kd l).2.2.1, .int .i64 (mH D q ep kd l).2.2.2])/\nz base F p g w (mH D q ep kd l).1 s (mH D q ep kd l).2.1 ep w':=by
 have stay: ∀w',Below w.heap.size w w'->nz base F p g w D s q ep w':=fun w' hb=>⟨F,h.below hb,hf.below hb,Fr.ba hb,Gr.refl _ _⟩
 unfold mH
 by_cases hlv:ak D ep=0
 · rw [if_neg (fun c=>c hlv)]
   by_cases hk:kindOk kd=true
   · rw [if_neg (by rw [hk];decide)]
     have EC:=(gQ kd).1 hk
     by_cases hl:246<l.length
     · rw [if_pos hl]
       refine(DN w base F p D h g s q ep hf hlv kd EC.1 EC.2 sp l.length cap (by omega)).mono ?_
       rintro e w' ⟨rfl,hb⟩;exact⟨rfl,stay w' hb⟩
     · rw [if_neg hl]
       by_cases hn:(D.np:Int)<=q
       · rw [if_pos hn]
         refine(DR w base F p D h g s q ep hf hlv (by omega) kd EC.1 EC.2 sp l.length cap (by omega)).mono ?_
         rintro e w' ⟨rfl,hb⟩;exact⟨rfl,stay w' hb⟩
       · rw [if_neg hn]
         refine(zl w base F p D h cX g s ep q hf hlv ⟨hq.1,by omega⟩ kd hk l h8 (by omega) sp cap hS mA hwr).mono ?_
         rintro e w' ⟨h1,h2⟩
         by_cases ha:D.armed=1
         · rw [if_pos ha];obtain⟨rfl,h3⟩:=h2 ha;exact⟨rfl,h3⟩
         · rw [if_neg ha];obtain⟨rfl,h3⟩:=h1 ha;exact⟨rfl,h3⟩
   · have hk':kindOk kd=false:=by simpa using hk
     rw [if_pos hk']
     have EC:kd<1\/3<kd:=by
       by_cases c:kd<1
       · exact Or.inl c
       · by_cases c2:3<kd
         · exact Or.inr c2
         · exact absurd ((gQ kd).2 ⟨by omega,by omega⟩) hk
     refine(DM w base F p D h g s q ep hf hlv kd EC sp l.length cap).mono ?_
     rintro e w' ⟨rfl,hb⟩;exact⟨rfl,stay w' hb⟩
 · rw [if_pos hlv]
   refine(DL w base F p D h g s q ep hf _ rfl hlv kd sp l.length cap).mono ?_
   rintro e w' ⟨rfl,hb⟩;exact⟨rfl,stay w' hb⟩
def bL(D:DS):DS×Int:=
 if D.power=false then(D,2)
 else if(aM (D.aj 0) (D.aj 1)).2≠0 then({D with reads:=D.reads+2},(aM (D.aj 0) (D.aj 1)).2)
 else if(aM (D.aj 0) (D.aj 1)).1.pg≠(D.np:Int)then({D with reads:=D.reads+2},4)
 else({D with reads:=D.reads+2,ag:=D.ag+1},0)
theorem DT(w:World)(base:Nat)(F:List Nat)(p:Nat)(D:DS)(h:DA w base F p D)(cM:D.power=false):
   Calls Tryz.prog 28 #[.pointer (some ⟨p,0,none⟩)] w fun e w'=> ∃s,e= .returned (.tuple #[.agg (ae s), .int .i64 2])/\Below w.heap.size w w':=by
 have b0:=aq w (.cells (ae sup0) 40)
 have r0:=aF w (.cells (ae sup0) 40)
 have HR0:=aa (Kl (w.alloc (.cells (ae sup0) 40)) base F p D (h.below b0) cM 0)
 have R0:=aa r0
 have B0:=aa b0
 clear h b0 r0 cM
 go_enter Tryz.func28,Tryz.ntmps28
 go_wp2_with fail
 rw [vQ]
 refine HR0.out.mono ?_
 rintro e w1 ⟨rfl,rfl⟩
 generalize hw1:w.alloc (.cells (ae sup0) 40)=w1 at*
 clear HR0
 go_wp2_with (first| (refine wpList_store_row (by rfl) 40 (.tmp 2) _ (by rfl) w.heap.size (ae sup0) (by rfl) (by rfl) 40 (ae sup0) (by exact R0.out) (bQ _) (jB _ _) (ew _) ?_))
 exact bodyPost_ret (v:= .tuple #[.agg (ae sup0), .int .i64 2]) (bX Tryz.results28 _ _ w.heap.size 40 _ _ _ rfl (setRow_heap _ _ _ _ _ _ R0.out) Tryz.underlying40 rfl (by rw [cj];rfl)) rfl ⟨sup0,rfl,⟨B0.out.os,B0.out.tape,B0.out.output,by rw [setRow_size];exact B0.out.size,fun k hk=>(setRow_other _ _ _ _ (by omega)).trans (B0.out.block k hk)⟩⟩
theorem Ln(w:World)(base:Nat)(F:List Nat)(p:Nat)(D:DS)(h:DA w base F p D)(cM:D.power=false):
   Calls Tryz.prog 12 #[.pointer (some ⟨p,0,none⟩)] w fun e w'=>e= .returned (.tuple #[.pointer none, .int .i64 2])/\Below w.heap.size w w':=by
 have oH:=aa (DT w base F p D h cM)
 clear h cM
 go_enter Tryz.func12,Tryz.ntmps12
 go_wp2_with fail
 refine oH.out.mono ?_
 rintro e w1 ⟨S,rfl,hB1⟩
 have HB1:=aa hB1
 clear hB1 oH
 go_wp2_with (first
   | (refine wpList_store_row (by rfl) 40 (.tmp 4) (.tmp 11) (by rfl) w1.heap.size (ae S) (by rfl) (by rfl) 40 _ (by exact aF _ _) (bQ S) (jP S) (ew S) ?_;rw [aP]))
 go_ret2
 exact⟨rfl,HB1.out.trans ((aq w1 _).mono HB1.out.size)⟩
theorem Gp(w:World)(base:Nat)(F:List Nat)(p:Nat)(D:DS)(h:DA w base F p D)(cM:D.power=true)(hr:D.reads<3999999999999999999)(s:aD)(hs:aM (D.aj 0) (D.aj 1)=(s,0))(fY:s.pg≠(D.np:Int)):
   Calls Tryz.prog 12 #[.pointer (some ⟨p,0,none⟩)] w fun e w'=>e= .returned (.tuple #[.pointer none, .int .i64 4])/\DA w' base F p {D with reads:=D.reads+2}/\Fr F w w':=by
 have oH:=aa (lR w base F p D h cM hr)
 have HX:=aa hs
 have hpq:Hid ((s.pg !=((({D with reads:=D.reads+2}:DS).np:Nat):Int))=true):=aa (by rw [show({D with reads:=D.reads+2}:DS).np=D.np from rfl];simpa using fY)
 clear h cM hr hs fY
 go_enter Tryz.func12,Tryz.ntmps12
 go_wp2_with fail
 refine oH.out.mono ?_
 rintro e w1 ⟨rfl,hD1,hF1⟩
 rw [HX.out]
 have HD1:=aa hD1
 have HF1:=aa hF1
 clear hD1 hF1 oH HX
 go_wp2_with (first
   | (refine wpList_store_row (by rfl) 40 (.tmp 4) (.tmp 11) (by rfl) w1.heap.size (ae s) (by rfl) (by rfl) 40 _ (by exact aF _ _) (bQ s) (jP s) (ew s) ?_;rw [aP];have R4:=aa (aF w1 (.cells (ae s) 40));have HD2:=aa (HD1.out.below (aq w1 (.cells (ae s) 40)));have HF2:=aa (HF1.out.tail (F':=F) (aq w1 (.cells (ae s) 40)));generalize hw2:w1.alloc (.cells (ae s) 40)=w2 at*;generalize w1.heap.size=G4 at*))
 refine wp_region_noPanic ?_
 refine wp_region_held_drew (S:=fun w'=>w'.heap[G4]? =some (.cells (ae s) 40 (0,0))) (by kernel_rfl) R4.out (fun hHeld=>?_)
 refine ai 0 (.pointer (some ⟨G4,4,none⟩)) rfl hHeld ?_
 try go_frame
 refine ai 2 (.pointer (some ⟨p,0,none⟩)) rfl hHeld ?_
 try go_frame
 refine aV 1 (.int .i64 s.pg) rfl (yA (by intro w hS;have hc:=zj hS;go_simp)) hHeld ?_
 try go_frame
 refine bR 3 rfl (fun K hK=>?_)
 go_simp
 go_at_call 29
 refine(kA _ base F p _ (HD2.out.drew)).mono ?_
 rintro e w4 ⟨rfl,rfl⟩
 go_wp2_with fail
 refine hK.out _ _ (hHeld) ?_
 clear hK K hHeld
 intro hHeld
 try go_frame
 refine aV 4 (.bool true) rfl (yA (by intro w hS;(have he2:=hpq.out;go_simp))) hHeld ?_
 try go_frame
 refine dY ?_
 go_wp2
 go_ret2
 exact⟨rfl,HD2.out.drew,HF2.out.drew⟩
theorem Lp(w:World)(base:Nat)(F:List Nat)(p:Nat)(D:DS)(h:DA w base F p D)(hr:D.reads<3999999999999999999)(je:D.ag<4000000000000000000):
   Calls Tryz.prog 12 #[.pointer (some ⟨p,0,none⟩)] w fun e w'=>((bL D).2=0-> ∃g,e= .returned (.tuple #[.pointer (some ⟨g,0,none⟩), .int .i64 0])/\w.heap.size<=g/\FK w' g p (aM (D.aj 0) (D.aj 1)).1 (aM (D.aj 0) (D.aj 1)).1.ma (D.ag+1))/\((bL D).2≠0->e= .returned (.tuple #[.pointer none, .int .i64 (bL D).2]))/\DA w' base F p (bL D).1/\Fr F w w':=by
 unfold bL
 by_cases hp0:D.power=false
 · have cM:=hp0
   rw [if_pos hp0]
   refine(Ln w base F p D h cM).mono ?_
   rintro e w' ⟨rfl,hb⟩;exact⟨fun c=>absurd (show(2:Int)=0 from c) (by decide),fun _=>rfl,h.below hb,Fr.ba hb⟩
 · have cM:D.power=true:=by simpa using hp0
   rw [if_neg hp0]
   by_cases hc:(aM (D.aj 0) (D.aj 1)).2=0
   · rw [if_neg (fun c=>c hc)]
     have hs:aM (D.aj 0) (D.aj 1)=((aM (D.aj 0) (D.aj 1)).1,0):=by rw [<-hc]
     by_cases fY:(aM (D.aj 0) (D.aj 1)).1.pg=(D.np:Int)
     · rw [if_neg (fun c=>c fY)]
       refine(Ej w base F p D h cM hr je _ hs fY).mono ?_
       rintro e w' ⟨g,rfl,h1,h2,h3,h4⟩
       exact⟨fun _=>⟨g,rfl,h1,h2⟩,fun c=>absurd rfl c,h3,h4⟩
     · rw [if_pos fY]
       refine(Gp w base F p D h cM hr _ hs fY).mono ?_
       rintro e w' ⟨rfl,h3,h4⟩
       exact⟨fun c=>absurd (show(4:Int)=0 from c) (by decide),fun _=>rfl,h3,h4⟩
   · rw [if_pos hc]
     refine(Ku w base F p D h cM hr _ rfl hc).mono ?_
     rintro e w' ⟨rfl,h3,h4⟩
     exact⟨fun c=>absurd c hc,fun _=>rfl,h3,h4⟩
end Go.Proofs.YtpdakmhnnkaafaaGreat
namespace Go.Proofs.YtpdakmhnnkaafaaGreat
set_option maxRecDepth 100000
set_option maxHeartbeats 40000000
set_option linter.unusedVariables false
set_option linter.unusedSimpArgs false
open Go.RowKit
open Go.Proofs.YtpdakmhnnkaafaaGreat.Ca (Ct ct0 av bV AS)
attribute [local go_sem ↓] Go.wp_at_zero Go.wp_at_succ
theorem dt.heap{w:World}{base:Nat}{t:TypeId}{v:Value}{vs:List Value}(h:dt w base t v vs): ∀k,v.ownBlock=some k->base<=k/\k<w.heap.size/\ ∃cs,w.heap[k]? =some (.cells cs t (0,0)):=fun k e=>by
 obtain⟨a,cs,b⟩:=h.ty e
 exact⟨a,aC b,cs,b⟩
theorem dt.nil(w:World)(base:Nat)(t:TypeId):dt w base t (.slice none 0 0) []:=⟨rfl,Or.inl ⟨rfl,rfl⟩⟩
theorem dt.at{w:World}{base:Nat}{t:TypeId}{v:Value}{vs:List Value}(h:dt w base t v vs): ∃sp cap b,v= .slice sp vs.length cap/\vs.length<=cap/\cap<=maxLen/\(0<vs.length->sp=some ⟨b,0,none⟩/\v.ownBlock=some b)/\ ∀j,j<vs.length->w.cell? ⟨b,j,none⟩=some (vs.getD j undef):=by
 obtain⟨h1,⟨rfl,hn⟩| ⟨g,cap,cur,rfl,hg,hh,hc,hm,hs,ht⟩⟩:=h
 · exact⟨none,0,0,by rw [hn],by omega,by simp [maxLen],fun h=>by omega,fun j hj=>by omega⟩
 · refine⟨some ⟨g,0,none⟩,cap,g,rfl,hc,hm,fun _=>⟨rfl,rfl⟩,fun j hj=>?_⟩
   rw [cell_of_row _ _ _ _ _ _ hh]
   have e:vs[j]? =cur.toList[j]? :=by
     rw [<-ht,List.getElem?_take,if_pos (by omega)]
   rw [List.getD_eq_getElem?_getD,e]
   have hj2:j<cur.toList.length:=by simp;omega
   rw [List.getElem?_eq_getElem hj2]
   simp
theorem Tryz.Oh:(Tryz.prog.info? 60).map (fun i=>(i.zero,i.size,i.bytes))=some (some (.pointer none),1,8):=by kernel_rfl
theorem Tryz.QN: ∃i,Tryz.prog.info? 60=some i/\i.zero=some (.pointer none)/\i.size=1/\i.bytes=8:=by
 have h:=Tryz.Oh
 cases hq:Tryz.prog.info? 60 with
 | none=>rw [hq]at h;cases h
 | some i=>
   rw [hq]at h
   simp only [Option.map_some,Option.some.injEq,Prod.mk.injEq]at h
   exact⟨i,rfl,h.1,h.2.1,h.2.2⟩
theorem mI{w:World}{ops:Array Oper}{rest:List Oper}{o:Oper}{a:Act}{Q:Exit->Act->World->Prop}(hgd:o.guard=none)(s x:Operand)
   (ho:o.op= .call {callee:= .builtin .append,args:= #[s,x],argTypes:= #[28,28]})
   (base:Nat) (v:Value) (vs ys:List Value) (hs:a.eval s=v) (hown:dt w base 60 v vs) (hx:a.eval x= .slice (some ⟨w.heap.size,0,none⟩) ys.length ys.length) (h1: ∀y∈ys,y.oneCell'=true)
   (hlen:vs.length+ys.length<=5000000000000) (hbase:base<=w.heap.size) (t:TypeId) (fr:Nat×Nat)
   (h: ∀v' w',dt w' base 60 v' (vs++ys)->Below base w w'->(∀k,k<w.heap.size->v.ownBlock≠some k->w'.heap[k]? =w.heap[k]?)->(v'.ownBlock=v.ownBlock\/ ∃k,v'.ownBlock=some k/\w.heap.size<=k)->wpList Tryz.prog ops Q rest (a.put o.dst v') w'):
   wpList Tryz.prog ops Q (o::rest) a (w.alloc (.cells ys.toArray t fr)):=by
 obtain⟨i5,hi5,hz5,hs5,hy5⟩:=Tryz.QN
 have hown':dt (w.alloc (.cells ys.toArray t fr)) base 60 v vs:=hown.of_heap fun k hk=>by
   show(w.heap.push _)[k]? =_
   rw [Array.getElem?_push,if_neg (by have:=(hown.heap k hk).2.1;omega)]
 refine wpList_append_own_at _ hgd s x 28 ho base 60 i5 (.pointer none) 1 8 Tryz.underlying28 hi5 hz5 hs5 hy5 rfl Nat.one_pos v vs.length vs hs hown' ⟨w.heap.size,0,none⟩ ys.length ys.length ys hx (by omega) ?_ h1 (by unfold maxLen;omega) (by omega) (by simp;omega) ?_
 · intro j u hu
   rw [Addr.add_mid,Nat.zero_add,cell_of_row _ _ _ _ _ _ (aF w _)]
   simpa using hu
 · intro v' w' q1 q2 _ q4
   have hB1:Below base w (w.alloc (.cells ys.toArray t fr)):=(Below.refl _ _).alloc hbase _
   refine h v' w' (by unfold dt;rw [List.length_append];exact q1) (hB1.trans (dx q2 (fun k hk=>(hown.heap k hk).1) (by simp;omega))) (fun k hk hne=>?_) ?_
   · rw [q2.block k (by simp;omega) (fun e=>hne e.symm)]
     show(w.heap.push _)[k]? =_
     rw [Array.getElem?_push,if_neg (by omega)]
   · rcases q4 with e| e
     · exact Or.inl e
     · exact Or.inr ⟨_,e,by simp⟩
theorem Tryz.Oi:(Tryz.prog.info? 50).map (fun i=>(i.zero,i.size,i.bytes))=some (some (.pointer none),1,8):=by kernel_rfl
theorem Tryz.QO: ∃i,Tryz.prog.info? 50=some i/\i.zero=some (.pointer none)/\i.size=1/\i.bytes=8:=by
 have h:=Tryz.Oi
 cases hq:Tryz.prog.info? 50 with
 | none=>rw [hq]at h;cases h
 | some i=>
   rw [hq]at h
   simp only [Option.map_some,Option.some.injEq,Prod.mk.injEq]at h
   exact⟨i,rfl,h.1,h.2.1,h.2.2⟩
theorem rJ{w:World}{ops:Array Oper}{rest:List Oper}{o:Oper}{a:Act}{Q:Exit->Act->World->Prop}(hgd:o.guard=none)(s x:Operand)
   (ho:o.op= .call {callee:= .builtin .append,args:= #[s,x],argTypes:= #[27,27]})
   (base:Nat) (v:Value) (vs ys:List Value) (hs:a.eval s=v) (hown:dt w base 50 v vs) (hx:a.eval x= .slice (some ⟨w.heap.size,0,none⟩) ys.length ys.length) (h1: ∀y∈ys,y.oneCell'=true)
   (hlen:vs.length+ys.length<=5000000000000) (hbase:base<=w.heap.size) (t:TypeId) (fr:Nat×Nat)
   (h: ∀v' w',dt w' base 50 v' (vs++ys)->Below base w w'->(∀k,k<w.heap.size->v.ownBlock≠some k->w'.heap[k]? =w.heap[k]?)->(v'.ownBlock=v.ownBlock\/ ∃k,v'.ownBlock=some k/\w.heap.size<=k)->wpList Tryz.prog ops Q rest (a.put o.dst v') w'):
   wpList Tryz.prog ops Q (o::rest) a (w.alloc (.cells ys.toArray t fr)):=by
 obtain⟨i5,hi5,hz5,hs5,hy5⟩:=Tryz.QO
 have hown':dt (w.alloc (.cells ys.toArray t fr)) base 50 v vs:=hown.of_heap fun k hk=>by
   show(w.heap.push _)[k]? =_
   rw [Array.getElem?_push,if_neg (by have:=(hown.heap k hk).2.1;omega)]
 refine wpList_append_own_at _ hgd s x 27 ho base 50 i5 (.pointer none) 1 8 Tryz.underlying27 hi5 hz5 hs5 hy5 rfl Nat.one_pos v vs.length vs hs hown' ⟨w.heap.size,0,none⟩ ys.length ys.length ys hx (by omega) ?_ h1 (by unfold maxLen;omega) (by omega) (by simp;omega) ?_
 · intro j u hu
   rw [Addr.add_mid,Nat.zero_add,cell_of_row _ _ _ _ _ _ (aF w _)]
   simpa using hu
 · intro v' w' q1 q2 _ q4
   have hB1:Below base w (w.alloc (.cells ys.toArray t fr)):=(Below.refl _ _).alloc hbase _
   refine h v' w' (by unfold dt;rw [List.length_append];exact q1) (hB1.trans (dx q2 (fun k hk=>(hown.heap k hk).1) (by simp;omega))) (fun k hk hne=>?_) ?_
   · rw [q2.block k (by simp;omega) (fun e=>hne e.symm)]
     show(w.heap.push _)[k]? =_
     rw [Array.getElem?_push,if_neg (by omega)]
   · rcases q4 with e| e
     · exact Or.inl e
     · exact Or.inr ⟨_,e,by simp⟩
def eP(i n:Int):Int:=if i.tmod n<0 then i.tmod n+n else i.tmod n
theorem tK(i n:Int)(h:0<n):0<=eP i n/\eP i n<n:=by
 obtain⟨t1,t2⟩:=tY i n h
 unfold eP
 split<;>omega
theorem vC(w:World)(i n:Int)(hi: -9223372036854775808<=i/\i<=9223372036854775807)(h:0<n)(hn:n<=1000000000000):
   Calls Tryz.prog 17 #[.int .i64 i, .int .i64 n] w fun e w'=>e= .returned (.int .i64 (eP i n))/\w'=w:=by
 obtain⟨t1,t2⟩:=tY i n h
 by_cases hz:i.tmod n<0
 · have hp:eP i n=i.tmod n+n:=if_pos hz
   rw [hp]
   generalize hq:i.tmod n=q at*
   go_enter Tryz.func17,Tryz.ntmps17
   go_wp2
   go_ret
   exact⟨rfl,rfl⟩
 · have hp:eP i n=i.tmod n:=if_neg hz
   rw [hp]
   generalize hq:i.tmod n=q at*
   go_enter Tryz.func17,Tryz.ntmps17
   go_wp2
   go_ret
   exact⟨rfl,rfl⟩
theorem tL(w:World)(base:Nat)(F:List Nat)(p:Nat)(D:DS)(h:DA w base F p D)(g:Nat)(s:aD)(nx ep:Int)(hf:FK w g p s nx ep)(c:Int)(hlv:ak D ep=c)(hc:c≠0)(room:Int):
   Calls Tryz.prog 13 #[.pointer (some ⟨g,0,none⟩), .int .i64 room] w fun e w'=>e= .returned (.tuple #[.pointer none, .int .i64 c])/\Below w.heap.size w w':=by
 have HL:=aa (gD w base F p D h g s nx ep hf)
 rw [hlv]at HL
 have hc1:(c==0)=false:=by simpa using hc
 have hc2:(c !=0)=true:=by simpa using hc
 clear h hf hlv hc
 go_enter Tryz.func13,Tryz.ntmps13
 go_wp2_with fail
 refine HL.out.mono ?_
 rintro e w1 ⟨rfl,hb1⟩
 go_wp2
 go_ret2
 exact⟨rfl,hb1⟩
theorem Lq(w:World)(room:Int):
   Calls Tryz.prog 13 #[.pointer none, .int .i64 room] w fun e w'=>e= .returned (.tuple #[.pointer none, .int .i64 1])/\Below w.heap.size w w':=by
 go_enter Tryz.func13,Tryz.ntmps13
 go_wp2
 go_ret2
 exact⟨rfl,Below.refl _ _⟩
end Go.Proofs.YtpdakmhnnkaafaaGreat
namespace Go.Proofs.YtpdakmhnnkaafaaGreat
set_option maxRecDepth 100000
set_option maxHeartbeats 40000000
set_option linter.unusedVariables false
set_option linter.unusedSimpArgs false
open Go.RowKit
open Go.Proofs.YtpdakmhnnkaafaaGreat.Ca (Ct ct0 av bV AS)
theorem rK{r:List Int}(h:(bq r).2=0):aJ (bq r).1=true:=by
 unfold bq at h⊢
 split at h
 · exact absurd h (by decide)
 · rename_i c1
   split at h
   · exact absurd h (by decide)
   · rename_i c2
     split at h
     · exact absurd h (by decide)
     · rename_i c3
       rw [if_neg c1,if_neg c2,if_neg c3]
       cases hv:aJ (gR (r.take 64))with
       | true=>rfl
       | false=>exact absurd (Or.inl hv) c3
theorem Cy{a b:List Int}(h:(aM a b).2=0):aJ (aM a b).1=true:=by
 unfold aM at h⊢
 by_cases c:(bq a).2=0/\(bq b).2=0
 · rw [if_pos c]at h⊢
   unfold gy at h⊢
   split
   · rename_i d;rw [if_pos d]at h;exact absurd h (by decide)
   · rename_i d
     rw [if_neg d]at h
     split
     · exact rK c.1
     · rename_i d2
       rw [if_neg d2]at h
       split
       · exact rK c.2
       · rename_i d3;rw [if_neg d3]at h;exact absurd h (by decide)
 · rw [if_neg c]at h
   repeat' split at h
   all_goals exact absurd h (by decide)
def oq(D:DS):aD:=(aM (D.aj 0) (D.aj 1)).1
def eU(D:DS)(m:Int)(raw:List Int):DS:=
 if m=1 then(mH D (oq D).ma D.ag 1 (raw.take 300)).1
 else if m=3 then D.crashed []else D
def cK(D:DS)(m:Int)(raw:List Int):DS×Int×Bool:=
 if m=2 then(D,1,false)
 else if(bL D).2≠0 then((bL D).1,(bL D).2,false)
 else if ak (eU (bL D).1 m raw) (D.ag+1)≠0 then(eU (bL D).1 m raw,ak (eU (bL D).1 m raw) (D.ag+1),false)
 else(eU (bL D).1 m raw,0,true)
theorem QP(D:DS):(bL (er D)).2=(bL D).2/\er (bL (er D)).1=er (bL D).1:=by
 unfold bL
 show(if D.power=false then(er D,(2:Int))else if(aM (D.aj 0) (D.aj 1)).2≠0 then(_,_)else if(aM (D.aj 0) (D.aj 1)).1.pg≠(D.np:Int)then(_,_)else(_,_)).2=_/\er (if D.power=false then(er D,(2:Int))else if(aM (D.aj 0) (D.aj 1)).2≠0 then(_,_)else if(aM (D.aj 0) (D.aj 1)).1.pg≠(D.np:Int)then(_,_)else(_,_)).1=_
 split
 · exact⟨rfl,rfl⟩
 · split
   · exact⟨rfl,rfl⟩
   · split<;>exact⟨rfl,rfl⟩
theorem QQ(D:DS)(nx ep kd:Int)(l:List Int):(mH (er D) nx ep kd l).1=er (mH D nx ep kd l).1:=by
 unfold mH
 show(if ak D ep≠0 then(er D,nx,(0:Int),ak D ep)else if kindOk kd=false then(er D,nx,0,50)else if 246<l.length then(er D,nx,0,51)else if(D.np:Int)<=nx then(er D,nx,0,5)else if D.armed=1 then((er D).wr ⟨nx.toNat,cy kd nx l⟩,nx,0,2)else((er D).wr ⟨nx.toNat,cy kd nx l⟩,nx+1,nx,0)).1=_
 rw [Gi]
 split
 · rfl
 · split
   · rfl
   · split
     · rfl
     · split
       · rfl
       · split<;>rfl
theorem ED(D:DS)(m:Int)(raw:List Int):eU (er D) m raw=er (eU D m raw):=by
 unfold eU
 by_cases h1:m=1
 · rw [if_pos h1,if_pos h1];exact QQ D _ _ _ _
 · rw [if_neg h1,if_neg h1]
   by_cases h3:m=3
   · rw [if_pos h3,if_pos h3];rfl
   · rw [if_neg h3,if_neg h3]
theorem Oj(D:DS)(m:Int)(raw:List Int):er (cK (er D) m raw).1=er (cK D m raw).1/\(cK (er D) m raw).2=(cK D m raw).2:=by
 obtain⟨e1,e2⟩:=QP D
 have e3:er (eU (bL (er D)).1 m raw)=er (eU (bL D).1 m raw):=by rw [<-ED,<-ED,e2]
 have e4:ak (eU (bL (er D)).1 m raw) (D.ag+1)=ak (eU (bL D).1 m raw) (D.ag+1):=(congrArg (fun X=>ak X (D.ag+1)) e3:ak (er (eU (bL (er D)).1 m raw)) (D.ag+1)=ak (er (eU (bL D).1 m raw)) (D.ag+1))
 have e5:(er D).ag=D.ag:=rfl
 unfold cK
 rw [e1,e5,e4]
 by_cases h2:m=2
 · rw [if_pos h2,if_pos h2];exact⟨rfl,rfl⟩
 · rw [if_neg h2,if_neg h2]
   by_cases ho:(bL D).2≠0
   · rw [if_pos ho,if_pos ho];exact⟨e2,rfl⟩
   · rw [if_neg ho,if_neg ho]
     by_cases hl:ak (eU (bL D).1 m raw) (D.ag+1)≠0
     · rw [if_pos hl,if_pos hl];exact⟨e3,rfl⟩
     · rw [if_neg hl,if_neg hl];exact⟨e3,rfl⟩
theorem Jv{D:DS}(h:(bL D).2=0):(bL D).1={D with reads:=D.reads+2,ag:=D.ag+1}/\aJ (oq D)=true/\(oq D).pg=(D.np:Int)/\D.power=true:=by
 unfold bL at h⊢
 by_cases c1:D.power=false
 · rw [if_pos c1]at h;exact absurd h (show¬((2:Int)=0) by decide)
 · rw [if_neg c1]at h⊢
   by_cases c2:(aM (D.aj 0) (D.aj 1)).2≠0
   · rw [if_pos c2]at h;exact absurd h c2
   · rw [if_neg c2]at h⊢
     by_cases c3:(aM (D.aj 0) (D.aj 1)).1.pg≠(D.np:Int)
     · rw [if_pos c3]at h;exact absurd h (show¬((4:Int)=0) by decide)
     · rw [if_neg c3]
       exact⟨rfl,Cy (Classical.not_not.1 c2),Classical.not_not.1 c3,by simpa using c1⟩
theorem Ok{D:DS}(h:(bL D).2≠0):er (bL D).1=er D/\(bL D).1.reads<=D.reads+2/\D.reads<=(bL D).1.reads:=by
 unfold bL at h⊢
 by_cases c1:D.power=false
 · rw [if_pos c1];exact⟨rfl,by show D.reads<=_;omega,by show D.reads<=D.reads;omega⟩
 · rw [if_neg c1]at h⊢
   by_cases c2:(aM (D.aj 0) (D.aj 1)).2≠0
   · rw [if_pos c2];exact⟨rfl,by show D.reads+2<=_;omega,by show D.reads<=D.reads+2;omega⟩
   · rw [if_neg c2]at h⊢
     by_cases c3:(aM (D.aj 0) (D.aj 1)).1.pg≠(D.np:Int)
     · rw [if_pos c3];exact⟨rfl,by show D.reads+2<=_;omega,by show D.reads<=D.reads+2;omega⟩
     · rw [if_neg c3]at h;exact absurd rfl h
theorem Ol{D:DS}{b:Nat}(hok:cC D)(h:DB D b)(m:Int)(raw:List Int):(eU D m raw).np=D.np/\DB (eU D m raw) (b+2)/\D.ag<=(eU D m raw).ag:=by
 have h1:=h.rd;have h2:=h.wr;have h3:=h.sy;have h4:=h.ep;have h5:=h.op;have h6:=h.np
 unfold eU
 by_cases k1:m=1
 · rw [if_pos k1]
   have hw: ∀o:OW,(D.wr o).np=D.np/\DB (D.wr o) (b+2)/\D.ag<=(D.wr o).ag:=fun o=>by
     obtain⟨e1,e2,e3,e4,e5,e6⟩:=kU D o
     have e7:(D.wr o).np=D.np:=jf (by rw [e1])
     refine⟨e7,⟨by omega,by omega,by omega,by omega,by rw [e2,List.length_append,List.length_singleton];omega,by omega⟩,by omega⟩
   have hs:D.np=D.np/\DB D (b+2)/\D.ag<=D.ag:=⟨rfl,h.more _ (by omega),Int.le_refl _⟩
   unfold mH
   repeat' split
   all_goals first| exact hs| exact hw _
 · rw [if_neg k1]
   by_cases k3:m=3
   · rw [if_pos k3]
     obtain⟨_,_,hn,hop⟩:=hok.np
     have e:(D.crashed []).np=D.np:=by
       show(bP D.af D.ops [] D.ops.length).length/256=_
       rw [fG [] hn hop _ (Nat.le_refl _)];omega
     exact⟨e,⟨by show D.reads<=_;omega,by show D.writes<=_;omega,by show D.aA<=_;omega,by show D.ag+1<=_;omega,by show([]:List OW).length<=_;simp,by rw [e];exact h6⟩,by show D.ag<=D.ag+1;omega⟩
   · rw [if_neg k3];exact⟨rfl,h.more _ (by omega),Int.le_refl _⟩
theorem kM{D:DS}{b:Nat}(hok:cC D)(h:DB D b)(hb:b<=1000000000000)(m:Int)(raw:List Int):(cK D m raw).1.np=D.np/\DB (cK D m raw).1 (b+200)/\D.ag<=(cK D m raw).1.ag/\(((∀ep,ak (cK D m raw).1 ep=ak D ep)/\ ∀q,(cK D m raw).1.aj q=D.aj q)\/D.ag<(cK D m raw).1.ag):=by
 have h1:=h.rd;have h2:=h.wr;have h3:=h.sy;have h4:=h.ep;have h5:=h.op;have h6:=h.np
 unfold cK
 by_cases k2:m=2
 · rw [if_pos k2];exact⟨rfl,h.more _ (by omega),Int.le_refl _,Or.inl ⟨fun _=>rfl,fun _=>rfl⟩⟩
 · rw [if_neg k2]
   by_cases ho:(bL D).2≠0
   · rw [if_pos ho]
     obtain⟨e1,e2,e3⟩:=Ok ho
     have f1:(bL D).1.np=D.np:=(congrArg DS.np e1:(er (bL D).1).np=(er D).np)
     have f2:(bL D).1.writes=D.writes:=(congrArg DS.writes e1:(er (bL D).1).writes=(er D).writes)
     have f3:(bL D).1.aA=D.aA:=(congrArg DS.aA e1:(er (bL D).1).aA=(er D).aA)
     have f4:(bL D).1.ag=D.ag:=(congrArg DS.ag e1:(er (bL D).1).ag=(er D).ag)
     have f5:(bL D).1.ops=D.ops:=(congrArg DS.ops e1:(er (bL D).1).ops=(er D).ops)
     exact⟨f1,⟨by show(bL D).1.reads<=_;omega,by show(bL D).1.writes<=_;omega,by show(bL D).1.aA<=_;omega,by show(bL D).1.ag<=_;omega,by show(bL D).1.ops.length<=_;rw [f5];omega,by show(bL D).1.np<=_;omega⟩,by show D.ag<=(bL D).1.ag;omega,Or.inl ⟨fun ep=>(congrArg (fun X=>ak X ep) e1:ak (er (bL D).1) ep=ak (er D) ep),fun q=>(congrArg (fun X=>DS.aj X q) e1:(er (bL D).1).aj q=(er D).aj q)⟩⟩
   · rw [if_neg ho]
     obtain⟨e1,_,_,_⟩:=Jv (Classical.not_not.1 ho)
     have hok1:cC (bL D).1:=by
       rw [e1]
       exact⟨hok.n,hok.bts,hok.ops,by have:=hok.reads;show 0<=D.reads+2/\D.reads+2<=_;omega,hok.writes,hok.aA,by have:=hok.ag;show 0<=D.ag+1/\D.ag+1<=_;omega,hok.armed⟩
     have hdb1:DB (bL D).1 (b+100):=by
       rw [e1]
       exact⟨by show D.reads+2<=_;omega,by show D.writes<=_;omega,by show D.aA<=_;omega,by show D.ag+1<=_;omega,by show D.ops.length<=_;omega,h6⟩
     obtain⟨q1,q2,q3⟩:=Ol hok1 hdb1 m raw
     have e2:(bL D).1.np=D.np:=by rw [e1];rfl
     have e3:(bL D).1.ag=D.ag+1:=by rw [e1]
     have all:(eU (bL D).1 m raw).np=D.np/\DB (eU (bL D).1 m raw) (b+200)/\D.ag<=(eU (bL D).1 m raw).ag/\(((∀ep,ak (eU (bL D).1 m raw) ep=ak D ep)/\ ∀q,(eU (bL D).1 m raw).aj q=D.aj q)\/D.ag<(eU (bL D).1 m raw).ag):=⟨q1.trans e2,q2.more _ (by omega),by omega,Or.inr (by omega)⟩
     split<;>exact all
def WD.add(X:WD)(i:Nat)(S:au)(v:Value):WD:=
 {W:={X.W with tl:=v},pd:=X.pd,Fd:=X.Fd,Dd:=X.Dd,n:=X.n+1,ix:=fun j=>if j=X.n then i else X.ix j,so:=fun j=>if j=X.n then S else X.so j}
theorem WO.RT{w w':World}{base:Nat}{W:Wr}{c:Nat}(h:WO w base W c)(v:Value)(hk: ∀k∈W.fp,k≠W.g->w'.heap[k]? =w.heap[k]?)(hr:w'.heap[W.g]? =some (.cells (kH W.dl v W.B W.sl W.wl W.room W.turn) 33 (0,0))):WO w' base {W with tl:=v} c:=by
 obtain⟨n1,n2,n3⟩:=h.vh
 have hm: ∀k,(k=W.B\/W.v1.ownBlock=some k\/W.v2.ownBlock=some k\/W.v3.ownBlock=some k\/W.v4.ownBlock=some k\/W.sl.ownBlock=some k\/W.wl.ownBlock=some k\/W.room.ownBlock=some k)->k≠W.g->w'.heap[k]? =w.heap[k]? :=fun k q e=>hk k ((W.mem k).2 (Or.inr q)) e
 exact⟨h.hg,hr,⟨h.pb.hb,(hm W.B (by simp) n1).trans h.pb.bk,h.pb.o1.of_heap fun k e=>hm k (by simp [e]) (fun q=>n2 h.pb.o1 (q▸e)),h.pb.o2.of_heap fun k e=>hm k (by simp [e]) (fun q=>n2 h.pb.o2 (q▸e)),h.pb.o3.of_heap fun k e=>hm k (by simp [e]) (fun q=>n2 h.pb.o3 (q▸e)),h.pb.o4.of_heap fun k e=>hm k (by simp [e]) (fun q=>n2 h.pb.o4 (q▸e)),h.pb.d12,h.pb.d13,h.pb.d14,h.pb.d23,h.pb.d24,h.pb.d34⟩,h.st.of_heap fun k e=>hm k (by simp [e]) (fun q=>n2 h.st (q▸e)),h.wt.of_heap fun k e=>hm k (by simp [e]) (fun q=>n2 h.wt (q▸e)),h.dsw,h.ds1,h.ds2,h.ds3,h.ds4,h.dw1,h.dw2,h.dw3,h.dw4,h.rm.of_heap fun k e=>hm k (by simp [e]) (fun q=>n3 (q▸e)),h.rz,h.l1,h.l2,h.l3,h.l4,h.ls,h.lw,h.tu⟩
theorem WI.add{w w':World}{base:Nat}{X:WD}{b c:Nat}(h:WI w base X b c){i:Nat}(hi:i<2){S:au}(hS:SK w base S)(hF:S.F=X.Fd i)(hp:S.p=X.pd i)(hD:S.D=X.Dd i)(G:Gd S b)(hc:mR S)(je:S.ep<=(X.Dd i).ag)(hne: ∀j,j<X.n->X.ix j=i->(X.so j).ep≠S.ep)(nE: ∀q∈eC S,q∉X.fp)(v:Value)(hv:dt w' base 60 v (((List.range X.n).map fun k=> .pointer (some ⟨(X.so k).st,0,none⟩))++ [.pointer (some ⟨S.st,0,none⟩)]))(hk: ∀k,k<w.heap.size->k≠X.W.g->X.W.tl.ownBlock≠some k->w'.heap[k]? =w.heap[k]?)(hr:w'.heap[X.W.g]? =some (.cells (kH X.W.dl v X.W.B X.W.sl X.W.wl X.W.room X.W.turn) 33 (0,0)))(hs:w.heap.size<=w'.heap.size):
   WI w' base (X.add i S v) b (c+1):=by
 have hg:w.heap[X.W.g]? =some (.cells (kH X.W.dl X.W.tl X.W.B X.W.sl X.W.wl X.W.room X.W.turn) 33 (0,0)):=h.wo.row
 have MT: ∀{k:Nat} {cs:Array Value} {t:TypeId},w.heap[k]? =some (.cells cs t (0,0))->t≠60->X.W.tl.ownBlock≠some k:=fun a b e=>by
   obtain⟨_,cs2,a2⟩:=h.tl.ty e
   exact cL a a2 b rfl
 have Wj: ∀k∈X.W.fp,X.W.tl.ownBlock≠some k:=fun k hk e=>by
   obtain⟨_,cs2,a2⟩:=h.tl.ty e
   exact h.wo.jt a2 (Or.inr rfl) hk
 have gW:X.W.g∈X.W.fp:=(X.W.mem _).2 (by simp)
 have QR: ∀{T:au},SK w base T-> ∀k∈T.fp,X.W.tl.ownBlock≠some k:=fun hT k hk e=>by
   obtain⟨_,cs2,a2⟩:=h.tl.ty e
   exact hT.jt a2 (Or.inr rfl) hk
 have MU: ∀{T:au},SK w base T->(X.W.g∉T.fp)->SK w' base T:=fun hT hn=>hT.lh (fun k hk2=>hk k (hT.cF hk2).2 (fun e=>hn (e▸hk2)) (QR hT k hk2)) hs
 have gS:X.W.g∉S.fp:=hS.xy hg (Or.inl rfl)
 have gd: ∀a,a<2-> ∀q∈X.Fd a,w'.heap[q]? =w.heap[q]? :=fun a ha q hq=>hk q ((h.dk a ha).lt q hq).2 (fun e=>h.wo.Lm (h.dk a ha) (fun k2 e2=>h.rd k2 e2 a ha) gW (e▸hq)) (fun e=>by
   obtain⟨_,cs2,a2⟩:=h.tl.ty e
   exact(h.dk a ha).cS a2 (by decide) (by decide) (by decide) hq)
 have jV: ∀j,(X.add i S v).so j=if j=X.n then S else X.so j:=fun _=>rfl
 have MV: ∀j,(X.add i S v).ix j=if j=X.n then i else X.ix j:=fun _=>rfl
 have lt1: ∀j,j<X.n+1->j≠X.n->j<X.n:=fun j a b=>by omega
 refine⟨(h.wo.RT v (fun k hk2 e=>hk k (h.wo.ty hk2).2.1 e (Wj k hk2)) hr).more _ (by omega),fun a ha=>(h.dk a ha).of_heap (gd a ha),h.dm,h.df,fun j hj=>?_,fun j l hj hl hn=>?_,fun j l hj hl hn e=>?_,fun j hj a ha=>?_,h.rd,fun q e j hj=>?_,?_,?_,by show X.n+1<=c+1;have:=h.nn;omega⟩
 · by_cases q:j=X.n
   · have e1:(X.add i S v).so j=S:=by rw [jV,if_pos q]
     have e2:(X.add i S v).ix j=i:=by rw [MV,if_pos q]
     exact⟨by rw [e2];exact hi,by rw [e1];exact MU hS gS,by rw [e1,e2];exact hF,by rw [e1,e2];exact hp,by rw [e1,e2];exact hD,by rw [e1];exact G,by rw [e1];exact hc,by rw [e1,e2];exact je⟩
   · have sj:=h.st j (lt1 j hj q)
     have e1:(X.add i S v).so j=X.so j:=by rw [jV,if_neg q]
     have e2:(X.add i S v).ix j=X.ix j:=by rw [MV,if_neg q]
     exact⟨by rw [e2];exact sj.ix,by rw [e1];exact MU sj.sk (sj.sk.xy hg (Or.inl rfl)),by rw [e1,e2];exact sj.F,by rw [e1,e2];exact sj.p,by rw [e1,e2];exact sj.D,by rw [e1];exact sj.gd,by rw [e1];exact sj.co,by rw [e1,e2];exact sj.ep⟩
 · have TL: ∀a,a<X.n-> ∀q∈eC (X.so a),q∈X.fp:=fun a ha q hq=>(X.mem q).2 (Or.inr (Or.inr (Or.inr (Or.inr (Or.inr ⟨a,ha,hq⟩)))))
   rw [jV,jV]
   by_cases q1:j=X.n
   · rw [if_pos q1,if_neg (fun z=>hn (q1.trans z.symm))]
     exact fun q z y=>nE q z (TL l (lt1 l hl (fun z2=>hn (q1.trans z2.symm))) q y)
   · rw [if_neg q1]
     by_cases q2:l=X.n
     · rw [if_pos q2];exact fun q z y=>nE q y (TL j (lt1 j hj q1) q z)
     · rw [if_neg q2];exact h.sp j l (lt1 j hj q1) (lt1 l hl q2) hn
 · rw [jV,jV]
   rw [MV,MV]at e
   by_cases q1:j=X.n
   · rw [if_pos q1,if_neg (fun z=>hn (q1.trans z.symm))]at e
     rw [if_pos q1,if_neg (fun z=>hn (q1.trans z.symm))]
     exact fun z=>hne l (lt1 l hl (fun z2=>hn (q1.trans z2.symm))) e.symm z.symm
   · rw [if_neg q1]at e⊢
     by_cases q2:l=X.n
     · rw [if_pos q2]at e⊢;exact hne j (lt1 j hj q1) e
     · rw [if_neg q2]at e⊢;exact h.se j l (lt1 j hj q1) (lt1 l hl q2) hn e
 · rw [jV]
   by_cases q1:j=X.n
   · rw [if_pos q1]
     exact fun q z y=>nE q z ((X.mem q).2 (by
       have y2:q∈X.Fd a:=y
       rcases(show a=0\/a=1 by omega)with e| e<;>rw [e]at y2<;>simp [y2]))
   · rw [if_neg q1];exact h.sd j (lt1 j hj q1) a ha
 · rw [jV]
   by_cases q1:j=X.n
   · rw [if_pos q1]
     exact fun z=>nE q z ((X.mem q).2 (Or.inl ((X.W.mem q).2 (by simp [show X.W.room.ownBlock=some q from e]))))
   · rw [if_neg q1];exact h.rs q e j (lt1 j hj q1)
 · refine h.dl.of_heap fun q e=>?_
   obtain⟨_,cs2,a2⟩:=h.dl.ty e
   exact hk q (aC a2) (fun z=>by subst z;exact h.wo.jt a2 (Or.inl rfl) gW) (MT a2 (by decide))
 · have e:(List.range (X.n+1)).map (fun k=>(.pointer (some ⟨((X.add i S v).so k).st,0,none⟩):Value))=((List.range X.n).map fun k=> .pointer (some ⟨(X.so k).st,0,none⟩))++ [.pointer (some ⟨S.st,0,none⟩)]:=by
     rw [List.range_succ,List.map_append,List.map_singleton,jV,if_pos rfl]
     congr 1
     refine List.map_congr_left fun j hj=>?_
     rw [jV,if_neg (by have:=List.mem_range.1 hj;omega)]
   show dt w' base 60 v ((List.range (X.n+1)).map fun k=> .pointer (some ⟨((X.add i S v).so k).st,0,none⟩))
   rw [e];exact hv
end Go.Proofs.YtpdakmhnnkaafaaGreat

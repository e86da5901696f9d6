import Derived.Test.YtpdakmhnnkaafaaGreatR07
import Derived.Laws.EntriesVeiled
import Derived.Shelf.Abstract
import Derived.Maps.RangeWalk
namespace Go.Proofs.YtpdakmhnnkaafaaGreat
set_option maxRecDepth 100000
set_option maxHeartbeats 40000000
set_option linter.unusedVariables false
set_option linter.unusedSimpArgs false
open Go.RowKit
def bO(af:List Int)(q:Nat):List Int:=(af.drop (q*256)).take 256
theorem lH{af:List Int}{n q:Nat}(h:af.length=256*n)(hq:q<n):(bO af q).length=256:=by
 unfold bO;rw [List.length_take,List.length_drop];omega
theorem pW(af:List Int)(q j:Nat)(hj:j<256):(bO af q).getD j 0=af.getD (q*256+j) 0:=by
 unfold bO
 rw [List.getD_eq_getElem?_getD,List.getElem?_take,if_pos hj,List.getElem?_drop,<-List.getD_eq_getElem?_getD]
theorem AZ{af:List Int}{n q:Nat}{L:List Int}(h:af.length=256*n)(hq:q<n)(hL:L.length=256)(hg: ∀j,j<256->af.getD (q*256+j) 0=L.getD j 0):bO af q=L:=
 sL (by rw [lH h hq,hL]) fun j hj=>by rw [lH h hq]at hj;rw [pW _ _ _ hj,hg j hj]
theorem Ba{af:List Int}(h:jC af)(q:Nat):aS (bO af q):=fun x hx=>h x (List.mem_of_mem_drop (List.mem_of_mem_take hx))
theorem Bb(n q:Nat)(hq:q<n):bO (List.replicate (256*n) 0) q=zz 256:=by
 unfold bO zz
 rw [List.drop_replicate,List.take_replicate]
 congr 1
 omega
theorem iT{D:DS}(h:D.ops= [])(q:Nat):D.aj q=bO D.af q:=by
 unfold DS.aj bO;rw [h,Fh]
theorem wy(ops:List OW)(o:OW)(i:Nat)(hi:i<ops.length):(ops++ [o]).getD i dW=ops.getD i dW:=by
 rw [List.getD_eq_getElem?_getD,List.getElem?_append_left hi,<-List.getD_eq_getElem?_getD]
theorem uA{D D':DS}{o:OW}(hi:D'.af=D.af)(ho:D'.ops=D.ops++ [o])(q:Nat):D'.aj q=if o.page=q then o.data else D.aj q:=by
 unfold DS.aj
 rw [hi,ho,lO]
 by_cases c:o.page=q
 · rw [if_pos c,if_pos c]
   show((D.ops++ [o]).getD D.ops.length dW).data=_
   rw [List.getD_eq_getElem?_getD,List.getElem?_append_right (Nat.le_refl _),Nat.sub_self]
   rfl
 · rw [if_neg c,if_neg c]
   cases hl:gC D.ops q with
   | none=>rfl
   | some i=>exact congrArg OW.data (wy _ _ _ (oz hl))
theorem Fv(af:List Int)(ops:List OW)(o:OW):dL af (ops++ [o]) (ops++ [o]).length=lay1 (dL af ops ops.length) o:=by
 unfold dL
 rw [List.take_length,List.take_length,List.foldl_append];rfl
theorem Bc{af:List Int}{n:Nat}(h:af.length=256*n): ∀(r:List OW),(∀o∈r,gB n o)-> ∀q,q<n->bO (dL af r.reverse r.reverse.length) q=(match gC r.reverse q with| some i=>(r.reverse.getD i dW).data| none=>bO af q)
 | [],_,q,_=>rfl
 | o::r,ho,q,hq=>by
   have ih:=Bc h r (fun x hx=>ho x (List.mem_cons_of_mem _ hx)) q hq
   have ho1:=ho o (List.mem_cons_self)
   have hr: ∀x∈r.reverse,gB n x:=fun x hx=>ho x (List.mem_cons_of_mem _ (List.mem_reverse.1 hx))
   have hl:=iK h hr _ (Nat.le_refl _)
   rw [List.reverse_cons,Fv,lO]
   have hL:=uT hl ho1
   by_cases c:o.page=q
   · rw [if_pos c]
     have e:((r.reverse++ [o]).getD r.reverse.length dW).data=o.data:=by
       rw [List.getD_eq_getElem?_getD,List.getElem?_append_right (Nat.le_refl _),Nat.sub_self];rfl
     show bO _ q=((r.reverse++ [o]).getD r.reverse.length dW).data
     rw [e]
     refine AZ hL hq ho1.2.1 fun j hj=>?_
     rw [qG hl ho1,if_pos (by omega)]
     congr 1;omega
   · rw [if_neg c]
     have e:bO (lay1 (dL af r.reverse r.reverse.length) o) q=bO (dL af r.reverse r.reverse.length) q:=by
       refine AZ hL hq (lH hl hq) fun j hj=>?_
       rw [qG hl ho1,pW _ _ _ hj,if_neg (by omega)]
     rw [e,ih]
     cases hx:gC r.reverse q with
     | none=>rfl
     | some i=>exact(congrArg OW.data (wy _ _ _ (oz hx))).symm
theorem zg{D:DS}(hok:cC D)(q:Nat)(hq:q<D.np):bO (dL D.af D.ops D.ops.length) q=D.aj q:=by
 obtain⟨_,_,hn,hop⟩:=hok.np
 have:=Bc hn D.ops.reverse (fun x hx=>hop x (List.mem_reverse.1 hx)) q hq
 rw [List.reverse_reverse]at this
 rw [this];rfl
theorem wH{D:DS}(hok:cC D)(fs:List Int)(q:Nat)(hq:q<D.np)(hx: ∀o∈D.ops,o.page≠q):bO (bP D.af D.ops fs D.ops.length) q=bO D.af q:=by
 obtain⟨_,_,hn,hop⟩:=hok.np
 refine AZ (fG fs hn hop _ (Nat.le_refl _)) hq (lH hn hq) fun j hj=>?_
 rw [uz fs hn hop _ (fun o ho=>by have:=hx o ho;omega) _ (Nat.le_refl _),pW _ _ _ hj]
theorem zh{D:DS}(hok:cC D)(fs:List Int)(q:Nat)(hq:q<D.np)(d:List Int)(h1:D.ops= [⟨q,d⟩]): ∃(b:Bool) (T:List Int),T.length=192/\aS T/\bO (bP D.af D.ops fs D.ops.length) q=(if b then d else bO D.af q).take 64++T:=by
 obtain⟨_,_,hn,hop⟩:=hok.np
 have ho:=hop ⟨q,d⟩ (by rw [h1];exact List.mem_singleton.2 rfl)
 have gH:=fG fs hn hop _ (Nat.le_refl _)
 have hb8:=lQ fs hok.bts hop _ (Nat.le_refl _)
 have hP:=lH gH hq
 have hd:d.length=256:=ho.2.1
 have key: ∀X:List Int,X.length=256->(∀j,j<64->(bO (bP D.af D.ops fs D.ops.length) q).getD j 0=X.getD j 0)->bO (bP D.af D.ops fs D.ops.length) q=X.take 64++(bO (bP D.af D.ops fs D.ops.length) q).drop 64:=by
   intro X hX hj
   refine sL (by simp [hP,hX]) fun j hj2=>?_
   rw [hP]at hj2
   by_cases c:j<64
   · rw [List.getD_eq_getElem?_getD (l:=X.take 64++_),List.getElem?_append_left (by rw [List.length_take];omega),List.getElem?_take,if_pos c,<-List.getD_eq_getElem?_getD];exact hj j c
   · rw [List.getD_eq_getElem?_getD (l:=X.take 64++_),List.getElem?_append_right (by rw [List.length_take];omega),List.getElem?_drop,<-List.getD_eq_getElem?_getD]
     congr 1;rw [List.length_take];omega
 have hT:((bO (bP D.af D.ops fs D.ops.length) q).drop 64).length=192:=by rw [List.length_drop,hP]
 have hT8:aS ((bO (bP D.af D.ops fs D.ops.length) q).drop 64):=fun x hx=>Ba hb8 q x (List.mem_of_mem_drop hx)
 have hval: ∀j,j<64->(bO (bP D.af D.ops fs D.ops.length) q).getD j 0=if 0<fs.length/\(jd fs 0).testBit 0=true then d.getD j 0 else(bO D.af q).getD j 0:=by
   intro j hj
   rw [pW _ _ _ (by omega),pW _ _ _ (by omega),h1]
   show(if 0<fs.length then dw D.af ⟨q,d⟩ (jd fs 0) 4 else D.af).getD (q*256+j) 0=_
   by_cases c:0<fs.length
   · rw [if_pos c,mX _ hn ho 4 (Nat.le_refl _)]
     have e:(q*256+j-q*256)/64=0:=by omega
     have e2:q*256+j-q*256=j:=by omega
     by_cases b:(jd fs 0).testBit 0=true
     · rw [if_pos (by refine⟨?_,?_,?_⟩<;>first| (show(jd fs 0).testBit ((q*256+j-q*256)/64)=true;rw [e];exact b)| (show _<=_;simp only;omega)| (show _<_;simp only;omega)),if_pos ⟨c,b⟩]
       exact congrArg (fun i=>d.getD i 0) e2
     · rw [if_neg (fun x=>by have x2:=x.2.2;change (jd fs 0).testBit ((q*256+j-q*256)/64)=true at x2;rw [e]at x2;exact b x2),if_neg (fun x=>b x.2)]
   · rw [if_neg c,if_neg (fun x=>c x.1)]
 by_cases c:0<fs.length/\(jd fs 0).testBit 0=true
 · exact⟨true,_,hT,hT8,key d hd fun j hj=>by rw [hval j hj,if_pos c]⟩
 · exact⟨false,_,hT,hT8,key (bO D.af q) (lH hn hq) fun j hj=>by rw [hval j hj,if_neg c]⟩
def dI(s:aD):List Int:=dv s++List.replicate 192 0
theorem nw(s:aD):(dI s).length=256:=by rw [dI,List.length_append,eJ,List.length_replicate]
theorem oD{s:aD}(h:aJ s=true):aS (dI s):=fy (lW s h) (lG _)
theorem zi(s:aD):(dI s).take 64=dv s:=by
 unfold dI;rw [List.take_append_of_le_length (by rw [eJ];omega),List.take_of_length_le (by rw [eJ];omega)]
theorem sN{Y:List Int}(hY:Y.length=192):dJ (zz 64++Y)=true:=by
 unfold dJ
 rw [List.length_append,hY,List.take_append_of_le_length (by simp [zz])]
 simp [zz]
theorem Bd{Y:List Int}(hY:Y.length=192):(bq (zz 64++Y)).2≠0:=by
 intro h
 obtain⟨_,hv,ht⟩:=qA _ h
 rw [List.take_append_of_le_length (by simp [zz])]at ht
 have h76:=(GQ (bq (zz 64++Y)).1).1
 rw [<-ht]at h76
 revert h76;decide+kernel
def Blank(L0 L1:List Int):Prop:= ∃Y Z:List Int,Y.length=192/\Z.length=192/\L1=zz 64++Z/\(L0=zz 64++Y\/ ∃s,aJ s=true/\s.ge=0/\L0=dv s++Y)
theorem Blank.choose{L0 L1:List Int}(h:Blank L0 L1):aM L0 L1=(sup0,55):=by
 obtain⟨Y,Z,hY,hZ,rfl,rfl| ⟨s,hv,hg,rfl⟩⟩:=h
 · unfold aM
   rw [if_neg (fun h=>Bd hY h.1),if_pos (Or.inr (sN hY)),if_pos (sN hZ)]
 · unfold aM
   rw [pT s Y hv hY,if_neg (fun h=>Bd hZ h.2),if_pos (Or.inl ⟨rfl,hg⟩),if_pos (sN hZ)]
theorem Good.first{s u:aD}(vs:aJ s=true)(vu:aJ u=true)(hf:vS u s)(he:s.ge=0){Y Z:List Int}(hY:Y.length=192)(hZ:Z.length=192)(y8:aS Y)(z8:aS Z):Good u s (dv s++Y) (dv u++Z):=
 ⟨vu,vs,hf,Y,Z,hY,hZ,y8,z8,Or.inr ⟨by have:=hf.1;omega,rfl,rfl⟩⟩
end Go.Proofs.YtpdakmhnnkaafaaGreat
namespace Go.Proofs.YtpdakmhnnkaafaaGreat
set_option maxRecDepth 100000
set_option maxHeartbeats 40000000
set_option linter.unusedVariables false
set_option linter.unusedSimpArgs false
open Go.RowKit
attribute [local go_sem ↓] Go.wp_at_zero Go.wp_at_succ
theorem Nx.pre{base:Nat}{F:List Nat}{p:Nat}{w w1 w2:World}{D:DS}(hb:Below w.heap.size w w1)(h:Nx base F p w1 D w2):Nx base F p w D w2:=by
 obtain⟨F',h1,h2,h3⟩:=h
 exact⟨F',h1,(Fr.ba hb).trans h2 (Gr.refl _ _),fun k hk=>(h3 k hk).imp id (fun q=>Nat.le_trans hb.size q)⟩
theorem Nx.seq{base:Nat}{F F':List Nat}{p:Nat}{w w1 w2:World}{D:DS}(h2:Fr F w w1)(h3:Gr w F F')(h:Nx base F' p w1 D w2):Nx base F p w D w2:=by
 obtain⟨F2,q1,q2,q3⟩:=h
 exact⟨F2,q1,h2.trans q2 h3,h3.trans q3 h2.size⟩
theorem Nx.of{base:Nat}{F:List Nat}{p:Nat}{w:World}{D:DS}(h:DA w base F p D):Nx base F p w D w:=⟨F,h,Fr.refl _ _,Gr.refl _ _⟩
theorem DA.cS{w:World}{base:Nat}{F:List Nat}{p:Nat}{D:DS}(h:DA w base F p D){b:Nat}{cs:Array Value}{t:TypeId}{fr:Nat×Nat}(hb:w.heap[b]? =some (.cells cs t fr))(h1:t≠79)(h2:t≠5)(h3:t≠103):b∉F:=by
 obtain⟨P,rfl,rfl,hk,_⟩:=h
 intro e
 rcases(P.mem b).1 e with rfl| rfl| rfl| q
 · exact cL hb hk.cell h1 rfl
 · exact cL hb hk.im h2 rfl
 · obtain⟨es,clock,hm,_⟩:=hk.mp
   rw [hb]at hm;cases hm
 · obtain⟨_,cur,hh⟩:=aH hk.opn _ q;exact cL hb hh h3 rfl
theorem Fr.keep{F:List Nat}{w w1:World}(h:Fr F w w1){b:Nat}{o:Obj}(hb:w.heap[b]? =some o)(hn:b∉F):w1.heap[b]? =some o:=(h.block b (aC hb) hn).trans hb
theorem wI(w:World)(g n:Nat)(hn:n<=100)(fn:Nat->Nat)(first cap:Nat->Array Value)(I:Nat->World->Prop)(E:Int->World->Prop)
   (Pv: ∀k,k<n-> ∀(args:Array Value) (w1:World),(callFunc (fn k) args).run Tryz.prog w1= .ok (.enter (fn k) args) w1)
   (h0:I 0 w)
   (hcell: ∀k w1,k<n->I k w1->w1.cell? ⟨g,k,none⟩=some (.func (.func (fn k)) (first k) (cap k)))
   (Mk: ∀k w1,k<n->I k w1->Calls Tryz.prog (fn k) (first k++cap k) w1 fun e w2=> ∃x,e= .returned (.int .i64 x)/\(x=0->I (k+1) w2)/\(x≠0->E x w2)):
   Calls Tryz.prog 57 #[.slice (some ⟨g,0,none⟩) n n] w fun e w2=> ∃x,e= .returned (.int .i64 x)/\(x=0->I n w2)/\(x≠0->E x w2):=by
 have i0:(n:Int)<=100:=by omega
 go_enter Tryz.func57,Tryz.ntmps57
 go_wp2
 go_loopw [4,5,8] (fun _ _ iv wr=> ∃k:Nat,k<=n/\iv= .int .i64 k/\I k wr) (fun _ _ iv _=>n-(intOf iv).toNat)
 case atStart=>exact⟨0,by omega,rfl,h0⟩
 case round=>
   obtain⟨k,hk,rfl,hI⟩:=hrel
   by_cases hlt:k<n
   · have i1:(k:Int)<(n:Int):=by omega
     have c:=hcell k wr hlt hI
     have HC:=aa (Mk k wr hlt hI)
     have he:=Pv k hlt
     clear hcell Mk h0 Pv
     generalize fn k=f at*
     generalize first k=fi at*
     generalize cap k=ca at*
     · go_wp2_with (refine HC.out.mono ?_;rintro e w2 ⟨x,rfl,hx0,hx1⟩;by_cases hx:x=0)
       · subst hx
         go_wp2
         go_roundw
         case rel=>exact⟨k+1,by omega,by go_num,hx0 rfl⟩
         case measure=>simp [intOf];omega
       · have i2:(x !=0)=true:=by simpa using hx
         go_wp2
         go_ret
         exact⟨_,rfl,fun q=>absurd q hx,fun _=>hx1 hx⟩
   · obtain rfl:k=n:=by omega
     go_wp2
     go_ret
     exact⟨_,rfl,fun _=>hI,fun q=>absurd rfl q⟩
theorem js{D:DS}(hok:cC D)(q:Nat)(hq:q<D.np):(D.aj q).length=256/\aS (D.aj q):=by
 obtain⟨_,_,hn,hop⟩:=hok.np
 unfold DS.aj
 cases h:gC D.ops q with
 | none=>exact⟨lH hn hq,Ba hok.bts q⟩
 | some i=>
   have:=hop _ (fj D.ops i (oz h))
   exact⟨this.2.1,this.2.2⟩
theorem oF(w:World)(base:Nat)(F:List Nat)(p:Nat)(D:DS)(h:DA w base F p D)(cM:D.power=true)(q:Nat)(hq:q<D.np)(hr:D.reads<4000000000000000000)(z:Int)(hz:z=(q:Int)):
   Calls Tryz.prog 60 #[.pointer (some ⟨p,0,none⟩), .int .i64 z] w fun e w'=> ∃g c,e= .returned (.tuple #[.slice (some ⟨g,0,none⟩) 256 c, .int .i64 0])/\Own w' w.heap.size (.slice (some ⟨g,0,none⟩) 256 c) (D.aj q)/\Src w' (some ⟨g,0,none⟩) c (D.aj q)/\w.heap.size<=g/\DA w' base F p {D with reads:=D.reads+1}/\Fr F w w':=by
 obtain⟨P,rfl,rfl,hk,hok⟩:=h
 subst hz
 refine(Ny w base P D hk hok cM q hq hr).mono ?_
 rintro e w' ⟨v,rfl,h1,h2,h3⟩
 obtain⟨hl,h8⟩:=js hok q hq
 obtain⟨g,c,rest,rfl,q1,q2,q3,q4,q5⟩:=AY h1 (by omega)
 have hS:Src w' (some ⟨g,0,none⟩) c (D.aj q):=In.src (rest:=rest) q2 c q3 q4
 rw [hl]at h1⊢
 exact⟨g,c,rfl,h1,hS,q1,⟨P,rfl,rfl,h2,⟨hok.n,hok.bts,hok.ops,by show 0<=D.reads+1/\D.reads+1<=_;have:=hok.reads;omega,hok.writes,hok.aA,hok.ag,hok.armed⟩⟩,h3⟩
theorem Src.other{w w1:World}{F:List Nat}{g c:Nat}{zs:List Int}(h:Src w (some ⟨g,0,none⟩) c zs)(hf:Fr F w w1)(hg:g∉F)(hl:0<zs.length):Src w1 (some ⟨g,0,none⟩) c zs:=by
 obtain⟨h1,h2,b,o,h3,h4,h5⟩:=h
 have e:=h4 hl
 simp only [Option.some.injEq,Addr.mk.injEq]at e
 obtain⟨rfl,rfl,_⟩:=e
 refine⟨h1,h2,g,0,fun _=>Nat.lt_of_lt_of_le (h3 hl) hf.size,fun _=>rfl,fun j hj=>?_⟩
 rw [<-h5 j hj]
 unfold World.cell?
 simp only
 rw [hf.block g (h3 hl) hg]
theorem mY(w:World)(p:Nat)(s:aD):
   Calls Tryz.prog 58 #[.pointer (some ⟨p,0,none⟩), .agg (ae s)] w fun e w'=> ∃a b,e= .returned (.func (.func 81) #[] #[.pointer (some ⟨b,0,none⟩), .pointer (some ⟨a,0,none⟩)])/\w'.heap[a]? =some (.cells #[.pointer (some ⟨p,0,none⟩)] 50 (0,0))/\w'.heap[b]? =some (.cells (ae s) 40 (0,0))/\w.heap.size<=a/\w.heap.size<=b/\Below w.heap.size w w':=by
 have Pw: ∀(fn:Fn) (first cap:Array Value) (w:World),(Instr.makeFunc fn first cap).run Tryz.prog w= .ok (.func fn first cap) w:=fun _ _ _ _=>rfl
 go_enter Tryz.func58,Tryz.ntmps58
 go_wp2
 go_ret
 refine⟨w.heap.size,w.heap.size+1,rfl,?_,?_,Nat.le_refl _,by omega,?_⟩
 · exact((aq (w.alloc (.cells #[.pointer (some ⟨p,0,none⟩)] 50)) _).block _ (by simp)).trans (aF w _)
 · have:=aF (w.alloc (.cells #[.pointer (some ⟨p,0,none⟩)] 50)) (.cells (ae s) 40)
   simpa using this
 · exact(aq w _).trans ((aq _ _).mono (by simp))
theorem oG{w:World}{b:Nat}{s:aD}{t:TypeId}(h:w.heap[b]? =some (.cells (ae s) t (0,0))):w.cell? ⟨b,1,none⟩=some (.int .i64 s.ge):=by simp [World.cell?,h,ae]
theorem Dl(w:World)(base:Nat)(F:List Nat)(p:Nat)(D:DS)(h:DA w base F p D)(cX:base<=w.heap.size)(cM:D.power=true)(s:aD)(hv:aJ s=true)(mA:D.ops.length<400000000000)(hwr:D.writes<4000000000000000000)(a b:Nat)(ha:w.heap[a]? =some (.cells #[.pointer (some ⟨p,0,none⟩)] 50 (0,0)))(hb:w.heap[b]? =some (.cells (ae s) 40 (0,0)))(q:Nat)(hq:s.ge%2=(q:Int)):
   Calls Tryz.prog 81 #[.pointer (some ⟨b,0,none⟩), .pointer (some ⟨a,0,none⟩)] w fun e w'=>e= .returned (.int .i64 D.eW)/\Nx base F p w (D.wr ⟨q,dI s⟩) w':=by
 have Ml:=(dg s).1 hv
 have hq2:q<2:=by omega
 have gI:=h.ok.np
 have hP:=aa (AD w s hv)
 have hm:s.ge.tmod 2=(q:Int):=by rw [Int.tmod_eq_emod_of_nonneg (by omega)];exact hq
 have i2:0<=s.ge/\s.ge<=1099511627776:=⟨Ml.2.2.1,Ml.2.2.2.1⟩
 have ra:=aa ha
 have rb:=aa hb
 have HW:=aa (fun(w1:World) (g:Nat) (hB:Below w.heap.size w w1) (hr:w1.heap[g]? =some (.cells (ints .u8 (dv s++List.replicate 192 0)).toArray 5 (0,0)))=>yV w1 base F p D (h.below hB) (Nat.le_trans cX hB.size) cM q (by omega) (dI s) (nw s) (oD hv) (some ⟨g,0,none⟩) 256 (DY (tl:= []) (by rw [List.append_nil];exact hr) 256 (by rw [nw];omega) (by simp [maxLen])) mA hwr)
 clear Ml hv gI mA hwr h cM cX
 go_enter Tryz.func81,Tryz.ntmps81
 go_wp2_with (first
   | (refine aG rfl 40 (.tmp 0) rfl b rfl 40 (ae s) (0,0) _ rb.out Tryz.underlying40 rfl (bQ s) ?_)
   | (go_at_call 82;refine hP.out.mono ?_;rintro e w1 ⟨g,rfl,hg,hr,hB⟩;have ca:=cell_of_one ((hB.block a (aC ra.out)).trans ra.out);have cb:=oG ((hB.block b (aC rb.out)).trans rb.out))
   | (go_at_call 73;refine(HW.out w1 g hB hr).mono ?_;rintro e w2 ⟨rfl,hN⟩))
 go_ret
 exact⟨rfl,hN.pre hB⟩
theorem Fr.xZ{F:List Nat}{a b:World}(h:Fr F a b){g:Nat}(hg:a.heap.size<=g)(cs:Array Value):Fr F a (b.setRow g cs):=
 ⟨h.os,h.tape,h.output,by rw [size_setRow];exact h.size,fun k hk hn=>(setRow_other _ _ _ _ (by omega)).trans (h.block k hk hn)⟩
theorem DA.of_heap{w w1:World}{base:Nat}{F:List Nat}{p:Nat}{D:DS}(h:DA w base F p D)(hk: ∀k∈F,w1.heap[k]? =w.heap[k]?):DA w1 base F p D:=by
 obtain⟨P,rfl,rfl,hd,hok⟩:=h
 exact⟨P,rfl,rfl,hd.of_heap hk,hok⟩
theorem DA.xZ{w:World}{base:Nat}{F:List Nat}{p:Nat}{D:DS}(h:DA w base F p D){g:Nat}(hg:g∉F)(cs:Array Value):DA (w.setRow g cs) base F p D:=
 h.of_heap fun k hk=>setRow_other _ _ _ _ (fun e=>hg (e▸hk))
theorem lR(w:World)(base:Nat)(F:List Nat)(p:Nat)(D:DS)(h:DA w base F p D)(cM:D.power=true)(hr:D.reads<3999999999999999999):
   Calls Tryz.prog 28 #[.pointer (some ⟨p,0,none⟩)] w fun e w'=>e= .returned (.tuple #[.agg (ae (aM (D.aj 0) (D.aj 1)).1), .int .i64 (aM (D.aj 0) (D.aj 1)).2])/\DA w' base F p {D with reads:=D.reads+2}/\Fr F w w':=by
 have gI:=h.ok.np
 have r0:=aF w (.cells (ae sup0) 40)
 have b0:=aq w (.cells (ae sup0) 40)
 have h0:=h.below b0
 have f0:=js h.ok 0 (by omega)
 have f1:=js h.ok 1 (by omega)
 have HR0:=aa (oF (w.alloc (.cells (ae sup0) 40)) base F p D h0 cM 0 (by omega) (by omega) 0 rfl)
 have HR1:=aa (fun(w1:World) (hD:DA w1 base F p {D with reads:=D.reads+1})=>oF w1 base F p {D with reads:=D.reads+1} hD cM 1 (by show 1<D.np;omega) (by show D.reads+1<_;omega) 1 rfl)
 have Hj:=aa h.lt
 have HF0:=aa f0
 have HF1:=aa f1
 have R0:=aa r0
 have B0:=aa b0
 clear h h0 gI f0 f1 r0 b0
 go_enter Tryz.func28,Tryz.ntmps28
 go_wp2_with fail
 rw [vQ]
 refine HR0.out.mono ?_
 rintro e w1 ⟨g,c,rfl,hO1,hS1,hg1,hD1,hF1⟩
 have HS1:=aa hS1
 have HD1:=aa hD1
 have HFF1:=aa hF1
 clear hO1 hS1 hD1 hF1 HR0
 go_wp2_with fail
 refine(HR1.out w1 HD1.out).mono ?_
 rintro e w2 ⟨g2,c2,rfl,hO2,hS2,hg2,hD2,hF2⟩
 have HS2:=aa hS2
 have HD2:=aa hD2
 have HFF2:=aa hF2
 clear hO2 hS2 hD2 hF2 HR1
 go_wp2_with fail
 have Sz:g∉F:=fun e=>by have:=(Hj.out g e).2;have:=B0.out.size;omega
 have hC:=Ff w2 (D.aj 0) (D.aj 1) HF0.out.2 HF1.out.2 (some ⟨g,0,none⟩) (some ⟨g2,0,none⟩) c c2 (HS1.out.other HFF2.out Sz (by rw [HF0.out.1];omega)) HS2.out
 rw [HF0.out.1,HF1.out.1]at hC
 refine hC.mono ?_
 rintro e w3 ⟨rfl,hB3⟩
 have Eh:w.heap.size∉F:=fun e=>by have:=(Hj.out _ e).2;omega
 have r3:w3.heap[w.heap.size]? =some (.cells (ae sup0) 40 (0,0)):=by
   have q:=HFF2.out.keep (HFF1.out.keep R0.out Eh) Eh
   exact(hB3.block _ (aC q)).trans q
 have F3:Fr F w w3:=(((Fr.ba (F:=F) B0.out).trans HFF1.out (Gr.refl _ _)).trans HFF2.out (Gr.refl _ _)).trans (Fr.ba hB3) (Gr.refl _ _)
 have D3:=HD2.out.below hB3
 have HF3:=aa F3
 have HD3:=aa D3
 have R3:=aa r3
 clear hC hB3 F3 D3 r3 HFF2 HD2 HS2 HS1 HFF1 HD1 HF0 HF1 Sz R0 B0 Hj
 generalize hS1:(aM (D.aj 0) (D.aj 1)).1=S at*
 generalize hE1:(aM (D.aj 0) (D.aj 1)).2=E at*
 go_wp2_with (first| (refine wpList_store_row (by rfl) 40 (.tmp 2) (.tmp 28) (by rfl) w.heap.size (ae S) (by rfl) (by rfl) 40 (ae sup0) (by exact R3.out) (bQ _) (jB _ _) (ew _) ?_))
 exact bodyPost_ret (v:= .tuple #[.agg (ae S), .int .i64 E]) (bX Tryz.results28 _ _ w.heap.size 40 _ _ _ rfl (setRow_heap _ _ _ _ _ _ R3.out) Tryz.underlying40 rfl (by rw [cj];rfl)) rfl ⟨by rw [hS1,hE1],(by have:=HD3.out.xZ Eh (ae S);simpa [Int.add_assoc]using this),HF3.out.xZ (Nat.le_refl _) _⟩
inductive St where
 | sync
 | lay (s:aD) (a b:Nat)
def St.fn:St->Nat
 | .sync=>59
 | .lay _ _ _=>81
def St.first(p:Nat):St->Array Value
 | .sync=> #[.pointer (some ⟨p,0,none⟩)]
 | .lay _ _ _=> #[]
def St.cap:St->Array Value
 | .sync=> #[]
 | .lay _ a b=> #[.pointer (some ⟨b,0,none⟩), .pointer (some ⟨a,0,none⟩)]
def St.there(w:World)(p:Nat):St->Prop
 | .sync=>True
 | .lay s a b=>aJ s=true/\w.heap[a]? =some (.cells #[.pointer (some ⟨p,0,none⟩)] 50 (0,0))/\w.heap[b]? =some (.cells (ae s) 40 (0,0))
def sy(D:DS):DS×Int:=if D.armed=1 then(D.bn,2)else(D.synced,0)
def St.go:St->DS->DS×Int
 | .sync,D=>sy D
 | .lay s _ _,D=>(D.wr ⟨(s.ge%2).toNat,dI s⟩,D.eW)
def aX(D:DS):List St->DS×Int
 | []=>(D,0)
 | x::r=>if(x.go D).2=0 then aX (x.go D).1 r else x.go D
structure mN (D:DS) (k:Nat):Prop where
 pw:D.power=true
 ops:D.ops.length+k<400000000000
 writes:D.writes+k<4000000000000000000
 aA:D.aA+k<4000000000000000000
theorem Be{D:DS}(h:D.armed≠1):D.bn.power=D.power:=by
 unfold DS.bn;split
 · rfl
 · first| rfl| (rw [if_neg h])
theorem St.Mm{D:DS}{k:Nat}(h:mN D (k+1))(x:St)(h0:(x.go D).2=0):mN (x.go D).1 k:=by
 obtain⟨h1,h2,h3,h4⟩:=h
 cases x with
 | sync=>
   show mN (sy D).1 k
   change (sy D).2=0 at h0
   unfold sy at h0⊢
   by_cases c:D.armed=1
   · rw [if_pos c]at h0;exact absurd (show(2:Int)=0 from h0) (by decide)
   · rw [if_neg c]
     obtain⟨e1,e2,e3,e4,e5,e6⟩:=ez D
     exact⟨(Be c).trans h1,by show([]:List OW).length+k<_;simp;omega,by show D.bn.writes+k<_;rw [e5];omega,by show D.aA+1+k<_;omega⟩
 | lay s a b=>
   change D.eW=0 at h0
   have c:D.armed≠1:=by intro c;unfold DS.eW at h0;rw [if_pos c]at h0;exact absurd h0 (by decide)
   have e:=ez {D.dK ⟨(s.ge%2).toNat,dI s⟩with writes:=D.writes+1}
   obtain⟨e1,e2,e3,e4,e5,e6⟩:=e
   show mN (D.wr ⟨(s.ge%2).toNat,dI s⟩) k
   refine⟨?_,?_,?_,?_⟩
   · unfold DS.wr;rw [Be (by exact c)];exact h1
   · unfold DS.wr;rw [e2];simp [DS.dK];omega
   · unfold DS.wr;rw [e5];show D.writes+1+k<_;omega
   · unfold DS.wr;rw [e6];show D.aA+k<_;omega
theorem St.call{w:World}{base:Nat}{F:List Nat}{p:Nat}{D:DS}(h:DA w base F p D)(cX:base<=w.heap.size){k:Nat}(hb:mN D (k+1))(x:St)(ht:x.there w p):
   Calls Tryz.prog x.fn (x.first p++x.cap) w fun e w'=>e= .returned (.int .i64 (x.go D).2)/\Nx base F p w (x.go D).1 w':=by
 obtain⟨h1,h2,h3,h4⟩:=hb
 cases x with
 | sync=>
   show Calls Tryz.prog 59 #[.pointer (some ⟨p,0,none⟩)] w fun e w'=>e= .returned (.int .i64 (sy D).2)/\Nx base F p w (sy D).1 w'
   unfold sy
   by_cases c:D.armed=1
   · rw [if_pos c];exact Hg w base F p D h h1 c
   · rw [if_neg c];exact Km w base F p D h h1 c (by omega)
 | lay s a b=>
   obtain⟨hv,ha,hb⟩:=ht
   have Ml:=(dg s).1 hv
   exact Dl w base F p D h cX h1 s hv (by omega) (by omega) a b ha hb (s.ge%2).toNat (by omega)
theorem St.keep{w w1:World}{F:List Nat}{p base:Nat}{D:DS}(h:DA w base F p D)(hf:Fr F w w1)(x:St)(ht:x.there w p):x.there w1 p:=by
 cases x with
 | sync=>trivial
 | lay s a b=>
   obtain⟨hv,ha,hb⟩:=ht
   exact⟨hv,hf.keep ha (h.cS ha (by decide) (by decide) (by decide)),hf.keep hb (h.cS hb (by decide) (by decide) (by decide))⟩
def TI(w w':World)(base:Nat)(F:List Nat)(p:Nat)(D0:DS)(all:List St)(k:Nat):Prop:=
 ∃D F',DA w' base F' p D/\Fr F w w'/\Gr w F F'/\aX D (all.drop k)=aX D0 all/\mN D (all.length-k)
theorem TI.start{w:World}{base:Nat}{F:List Nat}{p:Nat}{D0:DS}(h:DA w base F p D0)(all:List St)(hb:mN D0 all.length):TI w w base F p D0 all 0:=
 ⟨D0,F,h,Fr.refl _ _,Gr.refl _ _,rfl,hb⟩
theorem TI.step{w w':World}{base:Nat}{F:List Nat}{p:Nat}{D0:DS}(h0:DA w base F p D0)(cX:base<=w.heap.size){all:List St}{k:Nat}(h:TI w w' base F p D0 all k)(hk:k<all.length)(ht: ∀x∈all,x.there w p):
   Calls Tryz.prog (all.getD k .sync).fn ((all.getD k .sync).first p++(all.getD k .sync).cap) w' fun e w2=> ∃x,e= .returned (.int .i64 x)/\(x=0->TI w w2 base F p D0 all (k+1))/\(x≠0->x=(aX D0 all).2/\Nx base F p w (aX D0 all).1 w2):=by
 obtain⟨D,F',hD,hF,hG,hr,hb⟩:=h
 have e:all.getD k .sync=all[k]:=by rw [List.getD_eq_getElem?_getD,List.getElem?_eq_getElem hk];rfl
 rw [e]
 have hd:all.drop k=all[k]::all.drop (k+1):=List.drop_eq_getElem_cons hk
 rw [hd]at hr
 have Px:=St.keep h0 hF _ (ht all[k] (List.getElem_mem hk))
 have hb1:mN D (all.length-(k+1)+1):=by rw [show all.length-(k+1)+1=all.length-k by omega];exact hb
 refine(St.call hD (Nat.le_trans cX hF.size) hb1 _ Px).mono ?_
 rintro e w2 ⟨rfl,F2,q1,q2,q3⟩
 refine⟨_,rfl,fun hx=>?_,fun hx=>?_⟩
 · refine⟨_,F2,q1,hF.trans q2 hG,hG.trans q3 hF.size,?_,St.Mm hb1 _ hx⟩
   rw [<-hr,aX,if_pos hx]
 · rw [aX,if_neg hx]at hr
   rw [<-hr]
   exact⟨rfl,F2,q1,hF.trans q2 hG,hG.trans q3 hF.size⟩
theorem TI.done{w w':World}{base:Nat}{F:List Nat}{p:Nat}{D0:DS}{all:List St}(h:TI w w' base F p D0 all all.length):(aX D0 all).2=0/\Nx base F p w (aX D0 all).1 w':=by
 obtain⟨D,F',hD,hF,hG,hr,hb⟩:=h
 rw [List.drop_length]at hr
 rw [<-hr]
 exact⟨rfl,F',hD,hF,hG⟩
theorem Kr: ∀(args:Array Value) (w:World),(callFunc 59 args).run Tryz.prog w= .ok (.enter 59 args) w:=enters_of Tryz.func59 (by kernel_rfl) rfl
theorem ND: ∀(args:Array Value) (w:World),(callFunc 81 args).run Tryz.prog w= .ok (.enter 81 args) w:=enters_of Tryz.func81 (by kernel_rfl) rfl
theorem St.SA(x:St): ∀(args:Array Value) (w:World),(callFunc x.fn args).run Tryz.prog w= .ok (.enter x.fn args) w:=by
 cases x with
 | sync=>exact Kr
 | lay _ _ _=>exact ND
def St.val(p:Nat)(x:St):Value:= .func (.func x.fn) (x.first p) x.cap
theorem Ks(w:World)(base:Nat)(F:List Nat)(p:Nat)(D0:DS)(h:DA w base F p D0)(cX:base<=w.heap.size)(all:List St)(hn:all.length<=100)(hb:mN D0 all.length)(ht: ∀x∈all,x.there w p)(g:Nat)(hg:w.heap[g]? =some (.cells (all.map (St.val p)).toArray 114 (0,0))):
   Calls Tryz.prog 57 #[.slice (some ⟨g,0,none⟩) all.length all.length] w fun e w2=>e= .returned (.int .i64 (aX D0 all).2)/\Nx base F p w (aX D0 all).1 w2:=by
 refine(wI w g all.length hn (fun k=>(all.getD k .sync).fn) (fun k=>(all.getD k .sync).first p) (fun k=>(all.getD k .sync).cap) (fun k w'=>TI w w' base F p D0 all k) (fun x w'=>x=(aX D0 all).2/\Nx base F p w (aX D0 all).1 w') (fun k _=>St.SA _) (TI.start h all hb) ?_ ?_).mono ?_
 · intro k w1 hk hI
   obtain⟨D,F',hD,hF,hG,_⟩:=hI
   have hg1:=hF.keep hg (h.cS hg (by decide) (by decide) (by decide))
   rw [cell_of_row _ _ _ _ _ _ hg1,List.getElem?_toArray,List.getElem?_map,List.getElem?_eq_getElem hk,List.getD_eq_getElem?_getD,List.getElem?_eq_getElem hk]
   rfl
 · intro k w1 hk hI
   exact TI.step h cX hI hk ht
 · rintro e w2 ⟨x,rfl,h1,h2⟩
   by_cases hx:x=0
   · obtain⟨q1,q2⟩:=(h1 hx).done
     rw [q1,hx];exact⟨rfl,q2⟩
   · obtain⟨q1,q2⟩:=h2 hx
     rw [q1];exact⟨rfl,q2⟩
theorem fR{ops:Array Oper}{S:World->Prop}{op:Oper}{a:Act}(hw:Region.wanted op (yielded ops a.tmps)=true)(x:Operand)(ho:op.op= .load 40 x)
   (b:Nat) (hx:a.eval x= .pointer (some ⟨b,0,none⟩)) (s:aD) (hS: ∀w,S w->w.heap[b]? =some (.cells (ae s) 40 (0,0))):YieldsIf Tryz.prog ops S op (.agg (ae s)) a:=
 yieldsIf_load_mid hw 40 x ho b 0 hx (gL s) _ (fun w h=>yK (hS w h)) Tryz.underlying40 rfl (by rw [cj];rfl)
theorem Dm(f0 f1 f2 f3:Fn)(x0 x1 x2 x3 c0 c1 c2 c3:Array Value)(w:World):
   (Instr.buildSlice 116 4 #[(0, .func f0 x0 c0),(1, .func f1 x1 c1),(2, .func f2 x2 c2),(3, .func f3 x3 c3)]).run Tryz.prog w= .ok (.slice (some ⟨w.heap.size,0,none⟩) 4 4) (w.alloc (.cells #[.func f0 x0 c0, .func f1 x1 c1, .func f2 x2 c2, .func f3 x3 c3] 114)):=by
 kernel_rfl
theorem qH{w:World}{ops:Array Oper}{o:Oper}{a:Act}{K:Act->World->Prop}{Q:Exit->Act->World->Prop}{E:Prop}(hw:Region.wanted o (yielded ops a.tmps)=true)(y0 y1 y2 y3:Operand)(ho:o.op= .buildSlice 116 4 #[(0,y0),(1,y1),(2,y2),(3,y3)])
   (f0 f1 f2 f3:Fn) (x0 x1 x2 x3 c0 c1 c2 c3:Array Value) (h0:a.eval y0= .func f0 x0 c0) (h1:a.eval y1= .func f1 x1 c1) (h2:a.eval y2= .func f2 x2 c2) (h3:a.eval y3= .func f3 x3 c3) (h:K (a.put o.dst (.slice (some ⟨w.heap.size,0,none⟩) 4 4)) (w.alloc (.cells #[.func f0 x0 c0, .func f1 x1 c1, .func f2 x2 c2, .func f3 x3 c3] 114))):
   if Region.wanted o (yielded ops a.tmps)=true then Oper.wp Tryz.prog o a w K Q else E:=by
 rw [if_pos hw]
 unfold Oper.wp execOp
 simp only [ho,List.map_toArray,List.map_cons,List.map_nil,h0,h1,h2,h3,Sem.run_bind,Dm,Result.andThen_ok,Sem.run_pure]
 exact h
def fS(n:Nat)(wd g:Int):aD:=⟨wd,g,2,0,n⟩
theorem lI{n:Nat}{wd g:Int}(h3:3<=n)(h4:n<=4096)(hw:1<=wd/\wd<=32)(hg:0<=g/\g<=1):aJ (fS n wd g)=true:=by
 rw [dg];simp only [fS];exact⟨hw.1,hw.2,hg.1,by omega,by omega,by omega,by omega,by omega,Or.inl trivial⟩
theorem Ho(w:World)(base:Nat)(F:List Nat)(p:Nat)(D:DS)(h:DA w base F p D)(cX:base<=w.heap.size)(cM:D.power=true)(hr:D.reads<3999999999999999999)(iU:mN D 4)(wd:Int)(hwd:1<=wd/\wd<=32)(s0 s1:aD)(hs0:s0=fS D.np wd 0)(hs1:s1=fS D.np wd 1)(hch:(aM (D.aj 0) (D.aj 1)).2=55):
   Calls Tryz.prog 27 #[.pointer (some ⟨p,0,none⟩), .int .i64 wd] w fun e w'=>e= .returned (.int .i64 (aX {D with reads:=D.reads+2} [.lay s0 0 0, .sync, .lay s1 0 0, .sync]).2)/\Nx base F p w (aX {D with reads:=D.reads+2} [.lay s0 0 0, .sync, .lay s1 0 0, .sync]).1 w':=by
 have gI:=h.ok.np
 have Py:=za w base F p D h
 rw [cM]at Py
 have Mn:=aa Py
 have oH:=aa (lR w base F p D h cM hr)
 have jw:=aa (fun(w1:World) (h1:DA w1 base F p {D with reads:=D.reads+2})=>kA w1 base F p _ h1)
 have hv0:aJ s0=true:=by rw [hs0];exact lI gI.1 gI.2.1 hwd ⟨by omega,by omega⟩
 have hv1:aJ s1=true:=by rw [hs1];exact lI gI.1 gI.2.1 hwd ⟨by omega,by omega⟩
 have HS0:=aa hs0
 have HS1:=aa hs1
 have Bf:=aa (show((D.np:Nat):Int)<=4096 by omega)
 have Pw: ∀(fn:Fn) (first cap:Array Value) (w:World),(Instr.makeFunc fn first cap).run Tryz.prog w= .ok (.func fn first cap) w:=fun _ _ _ _=>rfl
 obtain⟨i1,i2⟩:=hwd
 have HB:=aa iU
 have Ef:=aa hch
 clear gI Py h cM hr hs0 hs1 iU hch
 go_enter Tryz.func27,Tryz.ntmps27
 go_wp2_with (first| (go_at_call 56;refine Mn.out.mono ?_;rintro e w0 ⟨rfl,rfl⟩))
 refine oH.out.mono ?_
 rintro e w1 ⟨rfl,hD1,hF1⟩
 rw [Ef.out]
 generalize (aM (D.aj 0) (D.aj 1)).1=S at*
 have HD1:=aa hD1
 have HF1:=aa hF1
 clear hD1 hF1 oH Mn Ef
 go_wp2_with (first
   | (refine wpList_store_row (by rfl) 40 (.tmp 5) (.tmp 23) (by rfl) w1.heap.size (ae S) (by rfl) (by rfl) 40 _ (by exact aF _ _) (bQ S) (jP S) (ew S) ?_;rw [aP];generalize hw2:w1.alloc (.cells (ae S) 40)=w2 at*))
 have B2:Below w1.heap.size w1 w2:=hw2▸aq _ _
 have D2:=HD1.out.below B2
 have HF2:=aa (HF1.out.tail (F':=F) B2)
 have HD2:=aa D2
 refine(jw.out w2 D2).mono ?_
 rintro e w3 ⟨rfl,rfl⟩
 rw [show({D with reads:=D.reads+2}:DS).np=D.np from rfl]
 have K0:(#[.int .i64 wd, .int .i64 0, .int .i64 2, .int .i64 0, .int .i64 (D.np:Int)]:Array Value)=ae s0:=by rw [HS0.out];rfl
 have HK0:=aa K0
 have HK1:=aa (show∀(w:World) (g:Nat),w.heap[g]? =some (.cells (ae s0) 40 (0,0))->(w.setCell ⟨g,1,none⟩ (.int .i64 1)).heap[g]? =some (.cells (ae s1) 40 (0,0))from fun w g hg=>by
   rw [heap_setCell_same _ _ _ _ _ _ hg,HS0.out,HS1.out];rfl)
 generalize D.np=np at*
 clear D2 B2 HD1 HF1 jw HS0 HS1 K0
 go_wp2_with (first
   | (refine wpList_store_row (by rfl) 40 (.tmp 7) (.tmp 30) (by rfl) w2.heap.size (ae s0) (by rfl) (by exact congrArg Value.agg HK0.out) 40 _ (by exact aF _ _) (bQ s0) (jP s0) (ew s0) ?_;rw [aP];have r7:=aF w2 (.cells (ae s0) 40);have b4:=aq w2 (.cells (ae s0) 40);generalize hw4:w2.alloc (.cells (ae s0) 40)=w4 at*;generalize hG7:w2.heap.size=G7 at*)
   | (refine aG (by rfl) 40 (.tmp 7) (by rfl) G7 (by rfl) 40 (ae s0) (0,0) _ (by exact r7) Tryz.underlying40 rfl (bQ s0) ?_)
   | (refine wpList_store_row (by rfl) 40 (.tmp 8) (.tmp 31) (by rfl) w4.heap.size (ae s0) (by rfl) (by rfl) 40 _ (by exact aF _ _) (bQ s0) (jP s0) (ew s0) ?_;rw [aP];have r8:=aF w4 (.cells (ae s0) 40);have b5:=aq w4 (.cells (ae s0) 40);generalize hw5:w4.alloc (.cells (ae s0) 40)=w5 at*;generalize hG8:w4.heap.size=G8 at*;have c8:=oG r8;have f8:=frozen_of_row _ _ 1 _ _ r8))
 generalize hw6:w5.setCell ⟨G8,1,none⟩ (.int .i64 1)=w6 at*
 have r8:Hid (w6.heap[G8]? =some (.cells (ae s1) 40 (0,0))):=aa (by rw [<-hw6];exact HK1.out w5 G8 r8)
 have hlt8:G7<G8:=by have:=aC r7;omega
 have r7:Hid (w6.heap[G7]? =some (.cells (ae s0) 40 (0,0))):=aa (by rw [<-hw6,heap_setCell_other _ ⟨G8,1,none⟩ _ _ (by show G7≠G8;omega)];exact(b5.block G7 (by omega)).trans r7)
 have B6:Below w2.heap.size w2 w6:=by
   rw [<-hw6,hG7]
   exact(b4.trans (b5.mono (by omega))).setCell (p:=⟨G8,1,none⟩) (show G7<=G8 by omega) _
 have D6:=HD2.out.below B6
 have F6:=HF2.out.tail (F':=F) B6
 have HT:=aa (fun(wA wB:World) (a0 b0 a1 b1:Nat) (hA:Below w6.heap.size w6 wA) (hB:Below wA.heap.size wA wB) (x1:wA.heap[a0]? =some (.cells #[.pointer (some ⟨p,0,none⟩)] 50 (0,0))) (x2:wA.heap[b0]? =some (.cells (ae s0) 40 (0,0))) (x3:wB.heap[a1]? =some (.cells #[.pointer (some ⟨p,0,none⟩)] 50 (0,0))) (x4:wB.heap[b1]? =some (.cells (ae s1) 40 (0,0)))=>
   (show Calls Tryz.prog 57 #[.slice (some ⟨wB.heap.size,0,none⟩) 4 4] (wB.alloc (.cells #[.func (.func 81) #[] #[.pointer (some ⟨b0,0,none⟩), .pointer (some ⟨a0,0,none⟩)], .func (.func 59) #[.pointer (some ⟨p,0,none⟩)] #[], .func (.func 81) #[] #[.pointer (some ⟨b1,0,none⟩), .pointer (some ⟨a1,0,none⟩)], .func (.func 59) #[.pointer (some ⟨p,0,none⟩)] #[]] 114)) fun e w'=>e= .returned (.int .i64 (aX {D with reads:=D.reads+2} [.lay s0 0 0, .sync, .lay s1 0 0, .sync]).2)/\Nx base F p w (aX {D with reads:=D.reads+2} [.lay s0 0 0, .sync, .lay s1 0 0, .sync]).1 w'/\w'.heap[G7]? =some (.cells (ae s0) 40 (0,0))/\w'.heap[G8]? =some (.cells (ae s1) 40 (0,0))from by
     have hx:=aq wB (.cells #[.func (.func 81) #[] #[.pointer (some ⟨b0,0,none⟩), .pointer (some ⟨a0,0,none⟩)], .func (.func 59) #[.pointer (some ⟨p,0,none⟩)] #[], .func (.func 81) #[] #[.pointer (some ⟨b1,0,none⟩), .pointer (some ⟨a1,0,none⟩)], .func (.func 59) #[.pointer (some ⟨p,0,none⟩)] #[]] 114)
     have mO:Below w6.heap.size w6 (wB.alloc (.cells #[.func (.func 81) #[] #[.pointer (some ⟨b0,0,none⟩), .pointer (some ⟨a0,0,none⟩)], .func (.func 59) #[.pointer (some ⟨p,0,none⟩)] #[], .func (.func 81) #[] #[.pointer (some ⟨b1,0,none⟩), .pointer (some ⟨a1,0,none⟩)], .func (.func 59) #[.pointer (some ⟨p,0,none⟩)] #[]] 114)):=hA.trans ((hB.trans (hx.mono hB.size)).mono hA.size)
     have sO:=D6.below mO
     have ru:=F6.tail (F':=F) mO
     have y7:=(mO.block G7 (aC r7.out)).trans r7.out
     have y8:=(mO.block G8 (aC r8.out)).trans r8.out
     refine(Ks _ base F p {D with reads:=D.reads+2} sO (Nat.le_trans cX ru.size) [.lay s0 a0 b0, .sync, .lay s1 a1 b1, .sync] (by simp) ⟨HB.out.pw,HB.out.ops,HB.out.writes,HB.out.aA⟩ ?_ wB.heap.size (aF _ _)).mono ?_
     · intro x hx'
       simp only [List.mem_cons,List.mem_nil_iff,or_false]at hx'
       rcases hx' with rfl| rfl| rfl| rfl
       · exact⟨hv0,hold ((hB.block a0 (aC x1)).trans x1),hold ((hB.block b0 (aC x2)).trans x2)⟩
       · trivial
       · exact⟨hv1,hold x3,hold x4⟩
       · trivial
     · rintro e w' ⟨rfl,F',q1,q2,q3⟩
       exact⟨rfl,Nx.seq ru (Gr.refl _ _) ⟨F',q1,q2,q3⟩,q2.keep y7 (sO.cS y7 (by decide) (by decide) (by decide)),q2.keep y8 (sO.cS y8 (by decide) (by decide) (by decide))⟩))
 clear D6 F6 B6 b4 b5 HB HF2 HD2 HK0 HK1 c8 f8 cX hv0 hv1 Bf
 refine wp_region_noPanic ?_
 refine wp_region_held_drew (S:=fun w'=>w'.heap[G7]? =some (.cells (ae s0) 40 (0,0))/\w'.heap[G8]? =some (.cells (ae s1) 40 (0,0))) (by kernel_rfl) ⟨r7.out,r8.out⟩ (fun hHeld=>?_)
 refine ai 0 (.pointer (some ⟨p,0,none⟩)) rfl hHeld ?_
 try go_frame
 refine aV 1 (.agg (ae s0)) rfl (fR (by rfl) (.tmp 7) rfl G7 rfl s0 (fun w1 hS=>hS.1)) hHeld ?_
 try go_frame
 refine ai 3 (.pointer (some ⟨p,0,none⟩)) rfl hHeld ?_
 try go_frame
 refine ai 5 (.pointer (some ⟨p,0,none⟩)) rfl hHeld ?_
 try go_frame
 refine aV 6 (.agg (ae s1)) rfl (fR (by rfl) (.tmp 8) rfl G8 rfl s1 (fun w1 hS=>hS.2)) hHeld ?_
 try go_frame
 refine ai 8 (.pointer (some ⟨p,0,none⟩)) rfl hHeld ?_
 try go_frame
 refine ai 4 (.func (.func 59) #[.pointer (some ⟨p,0,none⟩)] #[]) rfl hHeld ?_
 try go_frame
 refine ai 9 (.func (.func 59) #[.pointer (some ⟨p,0,none⟩)] #[]) rfl hHeld ?_
 try go_frame
 refine bR 2 rfl (fun K hK=>?_)
 go_simp
 go_at_call 58
 refine(mY _ p s0).mono ?_
 rintro e wA ⟨a0,b0,rfl,ha0,hb0,na0,nb0,iy⟩
 have HA0:=aa ha0
 have HB0:=aa hb0
 have oI:=aa (⟨iy.os,iy.tape,iy.output,iy.size,iy.block⟩:Below w6.heap.size w6 wA)
 go_wp2_with fail
 refine hK.out _ _ (⟨(iy.block G7 (aC hHeld.1)).trans hHeld.1,(iy.block G8 (aC hHeld.2)).trans hHeld.2⟩) ?_
 clear hK K hHeld
 intro hHeld
 clear ha0 hb0 iy
 try go_frame
 refine bR 7 rfl (fun K hK=>?_)
 go_simp
 go_at_call 58
 refine(mY _ p s1).mono ?_
 rintro e wB ⟨a1,b1,rfl,ha1,hb1,na1,nb1,hBB⟩
 have HA1:=aa ha1
 have HB1:=aa hb1
 have Vs:=aa hBB
 go_wp2_with fail
 refine hK.out _ _ (⟨(hBB.block G7 (aC hHeld.1)).trans hHeld.1,(hBB.block G8 (aC hHeld.2)).trans hHeld.2⟩) ?_
 clear hK K hHeld
 intro hHeld
 clear ha1 hb1 hBB
 try go_frame
 refine bR 10 rfl (fun K hK=>?_)
 refine qH (by rfl) (.tmp 35) (.tmp 37) (.tmp 40) (.tmp 42) rfl _ _ _ _ _ _ _ _ _ _ _ _ rfl rfl rfl rfl ?_
 refine hK.out _ _ (⟨hold hHeld.1,hold hHeld.2⟩) ?_
 clear hK K hHeld
 intro hHeld
 try go_frame
 refine bR 11 rfl (fun K hK=>?_)
 go_simp
 go_at_call 57
 refine(HT.out wA wB a0 b0 a1 b1 oI.out Vs.out HA0.out HB0.out HA1.out HB1.out).mono ?_
 rintro e wE ⟨rfl,hN,k7,k8⟩
 go_wp2_with fail
 refine hK.out _ _ (⟨k7,k8⟩) ?_
 clear hK K hHeld
 intro hHeld
 try go_frame
 refine ai 12 ((.int .i64 (aX {D with reads:=D.reads+2} [.lay s0 0 0, .sync, .lay s1 0 0, .sync]).2)) rfl hHeld ?_
 try go_frame
 refine dY ?_
 go_wp2
 go_ret
 exact⟨rfl,hN⟩
end Go.Proofs.YtpdakmhnnkaafaaGreat

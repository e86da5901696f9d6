import Derived.Test.YtpdakmhnnkaafaaGreatR18
import Derived.Test.YtpdakmhnnkaafaaGreatR02
import Derived.Test.YtpdakmhnnkaafaaGreatR07
namespace Go.Proofs.YtpdakmhnnkaafaaGreat.Bo
set_option maxRecDepth 100000
set_option maxHeartbeats 40000000
set_option linter.unusedVariables false
set_option linter.unusedSimpArgs false
open Go.RowKit
attribute [local go_sem ↓] Go.wp_at_zero Go.wp_at_succ
theorem AY{w:World}{base g cap:Nat}{rest:List Value}{os:List Int}(h:In w g rest os)(hg:base<=g)(hc:os.length<=cap)(hm:cap<=maxLen)(hr:rest.length=cap-os.length):Own w base (.slice (some ⟨g,0,none⟩) os.length cap) os:=by
 refine⟨by rw [aI];omega,Or.inr ⟨g,cap,_,rfl,hg,h,hc,hm,by simp [aI];omega,?_⟩⟩
 rw [Nat.mul_one]
 exact List.take_left' (aI _ _)
theorem zH{w:World}{base:Nat}{v:Value}{zs:List Int}(h:Own w base v zs):(v= .slice none 0 0/\zs= [])\/ ∃g cap rest,v= .slice (some ⟨g,0,none⟩) zs.length cap/\base<=g/\In w g rest zs/\zs.length<=cap/\cap<=maxLen/\rest.length=cap-zs.length:=by
 obtain⟨h1,⟨rfl,hn⟩| ⟨g,cap,cur,rfl,hg,hh,hc,hm,hs,ht⟩⟩:=h
 · exact Or.inl ⟨rfl,List.eq_nil_of_length_eq_zero hn⟩
 · refine Or.inr ⟨g,cap,cur.toList.drop zs.length,rfl,hg,?_,hc,hm,by simp [hs]⟩
   unfold In
   rw [hh,<-ht,Nat.mul_one,List.take_append_drop]
structure PB (w:World) (base B:Nat) (v1 v2 v3 v4:Value) (L1 L2 L3 L4:List Value):Prop where
 hb:base<=B
 bk:w.heap[B]? =some (.cells #[v1,v2,v3,v4] 55 (0,0))
 o1:cw w base v1 L1
 o2:cw w base v2 L2
 o3:cw w base v3 L3
 o4:cw w base v4 L4
 d12:Dj v1 v2
 d13:Dj v1 v3
 d14:Dj v1 v4
 d23:Dj v2 v3
 d24:Dj v2 v4
 d34:Dj v3 v4
theorem jl{w:World}{base B:Nat}{v:Value}{vs:List Value}{x:Array Value}(h:cw w base v vs)(hb:w.heap[B]? =some (.cells x 55 (0,0))):v.ownBlock≠some B:=fun e=>by
 obtain⟨_,_,cs,hc⟩:=h.heap B e
 exact dU hc hb (by decide) rfl
theorem cI{w:World}{a:Addr}{v:Value}{k:Nat}(h:k≠a.block):(w.setCell a v).heap[k]? =w.heap[k]? :=heap_setCell_other w a k v h
def Fr(base B:Nat)(a:Value)(w w':World):Prop:=Below base w w'/\ ∀k,k<w.heap.size->k≠B->a.ownBlock≠some k->w'.heap[k]? =w.heap[k]?
theorem fl{w w1:World}{base B:Nat}{a u:Value}{us:List Value}{x:Array Value}(hu:cw w base u us)(hb:w.heap[B]? =some (.cells x 55 (0,0)))(hd:Dj a u)(o:Nat)(y:Value)
   (hk: ∀k,k<w.heap.size->a.ownBlock≠some k->w1.heap[k]? =w.heap[k]?):cw (w1.setCell ⟨B,o,none⟩ y) base u us:=
 hu.of_heap fun k e=>by
   rw [cI (show k≠B from fun h=>jl hu hb (h▸e))]
   exact hk k (hu.heap k e).2.1 (fun h=>hd k h e)
theorem Ak{w w1:World}{base B:Nat}{a:Value}{x:Array Value}(hb:base<=B)(hB:Below base w w1)(o:Nat)(y:Value)
   (hk: ∀k,k<w.heap.size->a.ownBlock≠some k->w1.heap[k]? =w.heap[k]?):Fr base B a w (w1.setCell ⟨B,o,none⟩ y):=
 ⟨hB.setCell hb _,fun k h1 h2 h3=>by rw [cI (show k≠B from h2)];exact hk k h1 h3⟩
theorem PB.push1{w w1:World}{base B:Nat}{v1 v2 v3 v4 v' x:Value}{L1 L2 L3 L4:List Value}(h:PB w base B v1 v2 v3 v4 L1 L2 L3 L4)(q1:cw w1 base v' (L1++ [x]))(q2:Below base w w1)
   (q3: ∀k,k<w.heap.size->v1.ownBlock≠some k->w1.heap[k]? =w.heap[k]?) (q4:v'.ownBlock=v1.ownBlock\/ ∃k,v'.ownBlock=some k/\w.heap.size<=k):
   w1.heap[B]? =some (.cells #[v1,v2,v3,v4] 55 (0,0))/\PB (w1.setCell ⟨B,0,none⟩ v') base B v' v2 v3 v4 (L1++ [x]) L2 L3 L4/\Fr base B v1 w (w1.setCell ⟨B,0,none⟩ v'):=by
 have e1:w1.heap[B]? =some (.cells #[v1,v2,v3,v4] 55 (0,0)):=(q3 B (hlt h.bk) (jl h.o1 h.bk)).trans h.bk
 refine⟨e1,⟨h.hb,?_,?_,?_,?_,?_,?_,?_,?_,?_,?_,?_⟩,Ak (x:= #[]) h.hb q2 _ _ q3⟩
 · rw [heap_setCell_same _ _ _ _ _ _ e1];rfl
 · exact q1.of_heap fun k e=>cI (show k≠B from fun hh=>jl q1 e1 (hh▸e))
 · exact fl h.o2 h.bk h.d12 _ _ q3
 · exact fl h.o3 h.bk h.d13 _ _ q3
 · exact fl h.o4 h.bk h.d14 _ _ q3
 · exact gJ.push h.o2 h.d12 q4
 · exact gJ.push h.o3 h.d13 q4
 · exact gJ.push h.o4 h.d14 q4
 · exact h.d23
 · exact h.d24
 · exact h.d34
theorem PB.push2{w w1:World}{base B:Nat}{v1 v2 v3 v4 v' x:Value}{L1 L2 L3 L4:List Value}(h:PB w base B v1 v2 v3 v4 L1 L2 L3 L4)(q1:cw w1 base v' (L2++ [x]))(q2:Below base w w1)
   (q3: ∀k,k<w.heap.size->v2.ownBlock≠some k->w1.heap[k]? =w.heap[k]?) (q4:v'.ownBlock=v2.ownBlock\/ ∃k,v'.ownBlock=some k/\w.heap.size<=k):
   w1.heap[B]? =some (.cells #[v1,v2,v3,v4] 55 (0,0))/\PB (w1.setCell ⟨B,1,none⟩ v') base B v1 v' v3 v4 L1 (L2++ [x]) L3 L4/\Fr base B v2 w (w1.setCell ⟨B,1,none⟩ v'):=by
 have e1:w1.heap[B]? =some (.cells #[v1,v2,v3,v4] 55 (0,0)):=(q3 B (hlt h.bk) (jl h.o2 h.bk)).trans h.bk
 refine⟨e1,⟨h.hb,?_,?_,?_,?_,?_,?_,?_,?_,?_,?_,?_⟩,Ak (x:= #[]) h.hb q2 _ _ q3⟩
 · rw [heap_setCell_same _ _ _ _ _ _ e1];rfl
 · exact fl h.o1 h.bk h.d12.symm _ _ q3
 · exact q1.of_heap fun k e=>cI (show k≠B from fun hh=>jl q1 e1 (hh▸e))
 · exact fl h.o3 h.bk h.d23 _ _ q3
 · exact fl h.o4 h.bk h.d24 _ _ q3
 · exact(gJ.push h.o1 h.d12.symm q4).symm
 · exact h.d13
 · exact h.d14
 · exact gJ.push h.o3 h.d23 q4
 · exact gJ.push h.o4 h.d24 q4
 · exact h.d34
theorem PB.push3{w w1:World}{base B:Nat}{v1 v2 v3 v4 v' x:Value}{L1 L2 L3 L4:List Value}(h:PB w base B v1 v2 v3 v4 L1 L2 L3 L4)(q1:cw w1 base v' (L3++ [x]))(q2:Below base w w1)
   (q3: ∀k,k<w.heap.size->v3.ownBlock≠some k->w1.heap[k]? =w.heap[k]?) (q4:v'.ownBlock=v3.ownBlock\/ ∃k,v'.ownBlock=some k/\w.heap.size<=k):
   w1.heap[B]? =some (.cells #[v1,v2,v3,v4] 55 (0,0))/\PB (w1.setCell ⟨B,2,none⟩ v') base B v1 v2 v' v4 L1 L2 (L3++ [x]) L4/\Fr base B v3 w (w1.setCell ⟨B,2,none⟩ v'):=by
 have e1:w1.heap[B]? =some (.cells #[v1,v2,v3,v4] 55 (0,0)):=(q3 B (hlt h.bk) (jl h.o3 h.bk)).trans h.bk
 refine⟨e1,⟨h.hb,?_,?_,?_,?_,?_,?_,?_,?_,?_,?_,?_⟩,Ak (x:= #[]) h.hb q2 _ _ q3⟩
 · rw [heap_setCell_same _ _ _ _ _ _ e1];rfl
 · exact fl h.o1 h.bk h.d13.symm _ _ q3
 · exact fl h.o2 h.bk h.d23.symm _ _ q3
 · exact q1.of_heap fun k e=>cI (show k≠B from fun hh=>jl q1 e1 (hh▸e))
 · exact fl h.o4 h.bk h.d34 _ _ q3
 · exact h.d12
 · exact(gJ.push h.o1 h.d13.symm q4).symm
 · exact h.d14
 · exact(gJ.push h.o2 h.d23.symm q4).symm
 · exact h.d24
 · exact gJ.push h.o4 h.d34 q4
theorem PB.push4{w w1:World}{base B:Nat}{v1 v2 v3 v4 v' x:Value}{L1 L2 L3 L4:List Value}(h:PB w base B v1 v2 v3 v4 L1 L2 L3 L4)(q1:cw w1 base v' (L4++ [x]))(q2:Below base w w1)
   (q3: ∀k,k<w.heap.size->v4.ownBlock≠some k->w1.heap[k]? =w.heap[k]?) (q4:v'.ownBlock=v4.ownBlock\/ ∃k,v'.ownBlock=some k/\w.heap.size<=k):
   w1.heap[B]? =some (.cells #[v1,v2,v3,v4] 55 (0,0))/\PB (w1.setCell ⟨B,3,none⟩ v') base B v1 v2 v3 v' L1 L2 L3 (L4++ [x])/\Fr base B v4 w (w1.setCell ⟨B,3,none⟩ v'):=by
 have e1:w1.heap[B]? =some (.cells #[v1,v2,v3,v4] 55 (0,0)):=(q3 B (hlt h.bk) (jl h.o4 h.bk)).trans h.bk
 refine⟨e1,⟨h.hb,?_,?_,?_,?_,?_,?_,?_,?_,?_,?_,?_⟩,Ak (x:= #[]) h.hb q2 _ _ q3⟩
 · rw [heap_setCell_same _ _ _ _ _ _ e1];rfl
 · exact fl h.o1 h.bk h.d14.symm _ _ q3
 · exact fl h.o2 h.bk h.d24.symm _ _ q3
 · exact fl h.o3 h.bk h.d34.symm _ _ q3
 · exact q1.of_heap fun k e=>cI (show k≠B from fun hh=>jl q1 e1 (hh▸e))
 · exact h.d12
 · exact h.d13
 · exact(gJ.push h.o1 h.d14.symm q4).symm
 · exact h.d23
 · exact(gJ.push h.o2 h.d24.symm q4).symm
 · exact(gJ.push h.o3 h.d34.symm q4).symm
def By(w w':World):Prop:= ∀(k:Nat) (cs:Array Value),w.heap[k]? =some (Obj.cells cs 5 (0,0))->w'.heap[k]? =some (Obj.cells cs 5 (0,0))
theorem By.trans{a b c:World}(h:By a b)(k:By b c):By a c:=fun i cs hi=>k i cs (h i cs hi)
theorem FL.by{w w1:World}{v:Value}{m:Int}{n:Nat}(h:FL w v m n)(hb:By w w1):FL w1 v m n:=h.of_heap fun k e=>by
 obtain⟨_,cs,hc⟩:=h.heap k e
 rw [hb k cs hc,hc]
theorem pK.by{w w1:World}{L1 L2 L3 L4:List Value}{ns:List Nat}(h:pK w L1 L2 L3 L4 ns)(hb:By w w1):pK w1 L1 L2 L3 L4 ns:=h.of_heap fun k cs _ hc _ _=>by rw [hb k cs hc,hc]
theorem qP{v u:Value}{a b:Nat}(h:v.ownBlock=u.ownBlock\/ ∃k,v.ownBlock=some k/\a<=k)(hab:b<=a):v.ownBlock=u.ownBlock\/ ∃k,v.ownBlock=some k/\b<=k:=by
 rcases h with e| ⟨k,e,hk⟩
 · exact Or.inl e
 · exact Or.inr ⟨k,e,Nat.le_trans hab hk⟩
def At(w:World)(v x:Value):Prop:=x.ownBlock=v.ownBlock\/ ∃k,x.ownBlock=some k/\w.heap.size<=k
def KV(w:World)(base:Nat)(v:Value)(w':World):Prop:=Below base w w'/\ ∀k,k<w.heap.size->v.ownBlock≠some k->w'.heap[k]? =w.heap[k]?
theorem KV.refl(w:World)(base:Nat)(v:Value):KV w base v w:=⟨Below.refl _ _,fun _ _ _=>rfl⟩
theorem KV.step{w w1 w2:World}{base:Nat}{v x:Value}(h:KV w base v w1)(hx:At w v x)(hb:Below base w1 w2)(hk: ∀k,k<w1.heap.size->x.ownBlock≠some k->w2.heap[k]? =w1.heap[k]?):KV w base v w2:=
 ⟨h.1.trans hb,fun k h1 h2=>by
   rw [hk k (Nat.lt_of_lt_of_le h1 h.1.size) fun e=>?_,h.2 k h1 h2]
   rcases hx with q| ⟨k2,q,q2⟩
   · exact h2 (q▸e)
   · rw [q]at e;cases e;omega⟩
theorem At.step{w w1:World}{v x y:Value}(hx:At w v x)(hw:w.heap.size<=w1.heap.size)(hy:y.ownBlock=x.ownBlock\/ ∃k,y.ownBlock=some k/\w1.heap.size<=k):At w v y:=by
 rcases hy with q| ⟨k,q,q2⟩
 · rcases hx with e| ⟨k2,e,e2⟩
   · exact Or.inl (q.trans e)
   · exact Or.inr ⟨k2,q.trans e,e2⟩
 · exact Or.inr ⟨k,q,by omega⟩
theorem At.self(w:World)(v:Value):At w v v:=Or.inl rfl
def Fu(m:Int)(w w':World):Prop:= ∀b u k,Own w b u (List.replicate k m)->Own w' b u (List.replicate k m)
theorem gi{w:World}{base n cap k:Nat}{sp:Option Addr}{zs:List Int}{m:Int}(h:Own w base (.slice sp n cap) zs)(hk:k<zs.length): ∃g,sp=some ⟨g,0,none⟩/\base<=g/\w.cell? ⟨g,k,none⟩=some (.int .u8 (zs.getD k 0))/\w.frozen? ⟨g,k,none⟩=false/\Own (w.setCell ⟨g,k,none⟩ (.int .u8 m)) base (.slice sp n cap) (zs.set k m):=by
 rcases zH h with⟨_,h0⟩| ⟨g,cap2,rest,e,hg,hI,hc,hm,hr⟩
 · rw [h0]at hk;simp at hk
 · simp only [Value.slice.injEq]at e
   obtain⟨rfl,rfl,rfl⟩:=e
   refine⟨g,rfl,hg,hI.cell k hk,frozen_of_row _ _ _ _ _ hI,?_⟩
   have:=AY (hI.set k m hk) hg (by rw [List.length_set];exact hc) hm (by rw [List.length_set];exact hr)
   rwa [List.length_set]at this
end Go.Proofs.YtpdakmhnnkaafaaGreat.Bo
namespace Go.Proofs.YtpdakmhnnkaafaaGreat.Bo
set_option maxRecDepth 100000
set_option maxHeartbeats 40000000
set_option linter.unusedVariables false
set_option linter.unusedSimpArgs false
open Go.RowKit
attribute [local go_sem ↓] Go.wp_at_zero Go.wp_at_succ
theorem PB.Qw{w w1:World}{base B:Nat}{v v1 v2 v3 v4:Value}{L1 L2 L3 L4:List Value}{b0:Nat}{os:List Int}(h:PB w base B v1 v2 v3 v4 L1 L2 L3 L4)(hv:Own w b0 v os)(hk: ∀k,k<w.heap.size->v.ownBlock≠some k->w1.heap[k]? =w.heap[k]?):PB w1 base B v1 v2 v3 v4 L1 L2 L3 L4:=by
 have hS: ∀{u:Value} {vs:List Value},cw w base u vs->cw w1 base u vs:=fun hu=>hu.of_heap fun k e=>by
   obtain⟨_,a2,x,a3⟩:=hu.heap k e
   refine hk k a2 fun e2=>?_
   obtain⟨_,y,hy⟩:=tv hv k e2
   exact dU a3 hy (by decide) rfl
 refine⟨h.hb,(hk B (hlt h.bk) fun e2=>?_).trans h.bk,hS h.o1,hS h.o2,hS h.o3,hS h.o4,h.d12,h.d13,h.d14,h.d23,h.d24,h.d34⟩
 obtain⟨_,y,hy⟩:=tv hv B e2
 exact dU h.bk hy (by decide) rfl
theorem Lg(w:World)(base B:Nat)(v1 v2 v3 v4:Value)(L1 L2 L3 L4:List Value)(h:PB w base B v1 v2 v3 v4 L1 L2 L3 L4)(hN:L1.length<=4000000000000)(hN2:L2.length=L1.length)(hN3:L3.length=L1.length)(hN4:L4.length=L1.length)
   (v:Value) (n:Nat) (os:List Int) (hO:Own w base v os) (hn:os.length=n) (hn1:n<=4000000):
   Calls Tryz.prog 47 #[.pointer (some ⟨B,0,none⟩),v] w fun e w'=>e= .returned (.tuple #[])/\ ∃tz tA tB uK x2 x3 x4,
     PB w' base B tz tA tB uK (L1++ [v]) (L2++ [x2]) (L3++ [x3]) (L4++ [x4])∧
     At w v x2/\At w v x3/\At w v x4/\At w v1 tz/\At w v2 tA/\At w v3 tB/\At w v4 uK∧
     (∀k,k<w.heap.size->v.ownBlock≠some k->k≠B->v1.ownBlock≠some k->v2.ownBlock≠some k->v3.ownBlock≠some k->v4.ownBlock≠some k->w'.heap[k]? =w.heap[k]?)/\Below base w w':=by
 obtain⟨s1,c1,b1,hv1,Jc⟩:=h.o1.at
 clear Jc
 have z1:w.cell? ⟨B,0,none⟩=some (.slice s1 L1.length c1):=by rw [cell_of_row _ _ _ _ _ _ h.bk,<-hv1];rfl
 have i0:(n:Int)<=4000000:=by omega
 have i00:(L1.length:Int)<=4000000000000:=by omega
 have HV1:=aa hv1
 obtain⟨sp,cap,rfl,hsrc,_⟩:=hO.form
 have xm:=hsrc.1
 have hcm:=hsrc.2.1
 clear hsrc
 rw [hn]at hO xm⊢
 unfold maxLen at hcm
 have ML:base<=w.heap.size:=Nat.le_of_lt (Nat.lt_of_le_of_lt h.hb (hlt h.bk))
 replace hn:=aa hn
 replace ML:=aa ML
 have HO0:=aa hO
 have HH:=aa h
 have HN234:=aa (And.intro hN2 (And.intro hN3 hN4))
 clear hv1 h hN2 hN3 hN4
 go_enter Tryz.func47,Tryz.ntmps47
 go_wp2_with fail
 refine(Lf w L1.length (by omega)).mono ?_
 rintro e w0 ⟨rfl,rfl⟩
 generalize AK:mk L1.length=m at*
 have HM:=aa AK
 clear AK z1
 go_wp2
 go_loopw [5] (fun i wr=> ∃k:Nat,k<=n/\i= .int .i64 k/\Own wr base (.slice sp n cap) (List.replicate k m++os.drop k)/\KV w0 base (.slice sp n cap) wr) (fun i _=>n-(intOf i).toNat)
 case atStart=>exact⟨0,by omega,rfl,hO,KV.refl _ _ _⟩
 case round=>
   clear hO
   obtain⟨k,hk,rfl,hO,hK⟩:=hrel
   by_cases hkn:k<n
   · have i1:(k:Int)<(n:Int):=by omega
     have hlen:(List.replicate k m++os.drop k).length=n:=by rw [List.length_append,List.length_replicate,List.length_drop,hn.out];omega
     obtain⟨g,rfl,hg,c0,f0,cP⟩:=gi (m:=m) hO (by rw [hlen];exact hkn)
     have HR:=aa (show(List.replicate k m++os.drop k).set k m=List.replicate (k+1) m++os.drop (k+1) by
       have xw:k<os.length:=by rw [hn.out];exact hkn
       rw [List.set_append_right _ _ (by simp),List.length_replicate,Nat.sub_self,List.drop_eq_getElem_cons xw,List.set_cons_zero,List.replicate_succ',List.append_assoc];rfl)
     replace hlen:=aa hlen
     generalize (List.replicate k m++os.drop k).getD k 0=zz at*
     replace cP:=aa cP
     replace hO:=aa hO
     go_wp2
     go_roundw
     case rel=>exact⟨k+1,by omega,by go_num,(by rw [<-HR.out];exact cP.out),hK.step (At.self _ _) ((Below.refl _ _).setCell hg _) (fun kk _ q2=>cI (show kk≠g from fun e=>q2 (by rw [e];rfl)))⟩
     case measure=>simp [intOf];omega
   · obtain rfl:k=n:=by omega
     clear hkn
     rw [List.drop_of_length_le (by rw [hn.out];exact Nat.le_refl _),List.append_nil]at hO
     have hsz0:=hK.1.size
     have KB1:=aa (show k+1<=1000000000000 by omega)
     have KB2:=aa (show k+2<=1000000000000 by omega)
     have HB:=aa (fun(wz:World) (b:KV w0 base (.slice sp k cap) wz)=>show base<=wz.heap.size from Nat.le_trans ML.out b.1.size)
     replace hsz0:=aa hsz0
     go_wp2_with (first
       | (at_builtin;refine lg rfl (.tmp 26) (.tmp 28) rfl base _ k 1 m rfl hO (by decide) rfl KB1.out (HB.out _ hK) _ _ ?_;intro x2 wB O2 bB fB xB sB;have MM:=hK.step (At.self _ _) bB fB;have A2:=(At.self w0 (.slice sp k cap)).step hsz0.out xB;have OB:=sB _ _ _ hO;clear bB fB xB sB)
       | (at_builtin;refine lg rfl (.tmp 30) (.tmp 33) rfl base _ k 2 m rfl OB (by decide) rfl KB2.out (HB.out _ MM) _ _ ?_;intro x3 wC O3 bC fC xC sC;have MN:=MM.step (At.self _ _) bC fC;have A3:=(At.self w0 (.slice sp k cap)).step MM.1.size xC;have OC:=sC _ _ _ OB;have Tp:=sC _ _ _ O2;clear bC fC xC sC)
       | (at_builtin;refine lg rfl (.tmp 35) (.tmp 37) rfl base _ k 1 m rfl OC (by decide) rfl KB1.out (HB.out _ MN) _ _ ?_;intro x4 wD O4 bD fD xD sD;have Tq:=MN.step (At.self _ _) bD fD;have A4:=(At.self w0 (.slice sp k cap)).step MN.1.size xD;have OD:=sD _ _ _ OC;have Tr:=sD _ _ _ Tp;have Ts:=sD _ _ _ O3;clear bD fD xD sD))
     clear OB OC O2 Tp O3 hO hK MM MN
     go_loopw [8,9] (fun x j wr=> ∃t:Nat,t<=299/\j= .int .i64 (1+t:Nat)/\Own wr base x (List.replicate (k+1+t) m)/\KV w0 base (.slice sp k cap) wr/\At w0 (.slice sp k cap) x/\Fu m wD wr) (fun _ j _=>300-(intOf j).toNat)
     case atStart=>exact⟨0,by omega,rfl,O4,Tq,A4,fun _ _ _ q=>q⟩
     case round=>
       clear O4 Tq A4
       obtain⟨t,ht,rfl,hX,hK,hA4,hF⟩:=hrel
       by_cases xx:t<299
       · have i1:((1+t:Nat):Int)<300:=by omega
         have HT:=aa (show k+1+(t+1)=k+1+t+1 by omega)
         have KL:=aa (show k+1+t+1<=1000000000000 by omega)
         obtain⟨tt,MO⟩: ∃tt,tt=1+t:=⟨_,rfl⟩
         rw [<-MO]
         rw [<-MO]at i1
         have Tt:=aa MO
         clear MO
         go_wp2_with (first| (at_builtin;refine lg rfl (.tmp 43) (.tmp 45) rfl base _ (k+1+t) 1 m rfl hX (by decide) rfl KL.out (HB.out _ hK) _ _ ?_;intro x5 wM hX2 bM fM xM sM;have hK2:=hK.step hA4 bM fM;have hA5:=hA4.step hK.1.size xM;have hF2:Fu m wD wM:=fun b u q r=>sM b u q (hF b u q r)))
         go_roundw
         case rel=>exact⟨t+1,by omega,by have:=Tt.out;rw [show 1+(t+1)=tt+1 by omega];go_num,(by rw [HT.out];exact hX2),hK2,hA5,hF2⟩
         case measure=>have:=Tt.out;simp [intOf];omega
       · obtain rfl:t=299:=by omega
         clear xx
         have hO4:Own wr base u8 (List.replicate (k+300) m):=hX
         have PE:=HH.out.Qw HO0.out hK.2
         have hO1:=hF _ _ _ OD
         have hO2:=hF _ _ _ Tr
         have hO3:=hF _ _ _ Ts
         have fl1:FL wr (.slice sp k cap) m k:=FL.xv hO1
         have fl2:=FL.xv hO2
         have fl3:=FL.xv hO3
         have fl4:=FL.xv hO4
         obtain⟨y2,cy2,rfl⟩:=fl2.form
         obtain⟨y3,cy3,rfl⟩:=fl3.form
         obtain⟨y4,cy4,rfl⟩:=fl4.form
         have KX1:=aa (show(Value.slice sp k cap).oneCell'=true from rfl)
         have KX2:=aa (show(Value.slice y2 (k+1) cy2).oneCell'=true from rfl)
         have KX3:=aa (show(Value.slice y3 (k+2) cy3).oneCell'=true from rfl)
         have KX4:=aa (show(Value.slice y4 (k+300) cy4).oneCell'=true from rfl)
         obtain⟨ln2,ln3,ln4⟩:=HN234.out
         have KL1:=aa (show L1.length+ [(Value.slice sp k cap)].length<=5000000000000 by simp;omega)
         have KL2:=aa (show L2.length+ [(Value.slice y2 (k+1) cy2)].length<=5000000000000 by rw [ln2];simp;omega)
         have KL3:=aa (show L3.length+ [(Value.slice y3 (k+2) cy3)].length<=5000000000000 by rw [ln3];simp;omega)
         have KL4:=aa (show L4.length+ [(Value.slice y4 (k+300) cy4)].length<=5000000000000 by rw [ln4];simp;omega)
         have BE:Below base w0 wr:=hK.1
         have KB:=aa (fun(wz:World) (b:Below base w0 wz)=>show base<=wz.heap.size from Nat.le_trans ML.out b.size)
         have cE:wr.cell? ⟨B,0,none⟩=some v1:=by rw [cell_of_row _ _ _ _ _ _ PE.bk];rfl
         have XZ:=aa (And.intro fl1 (And.intro fl2 (And.intro fl3 fl4)))
         have Wb:=aa (And.intro A2 (And.intro A3 hA4))
         replace hK:=aa hK
         have Ya:=aa PE
         clear fl1 fl2 fl3 fl4 hX hO4 hF OD Tr Ts hO1 hO2 hO3 ln2 ln3 ln4 A2 A3 hA4
         go_wp2_with (first
       | (at_builtin;refine iE rfl (.tmp 51) (.tmp 53) rfl base _ _ [.slice sp k cap] rfl PE.o1 rfl (by intro y hy;rw [List.mem_singleton.1 hy];exact KX1.out) KL1.out (KB.out _ BE) _ _ ?_;intro tz w1F q1 q2 q3 q4;obtain⟨e1,P1,F1⟩:=PE.push1 q1 q2 q3 q4;have T1:=q4;obtain⟨sa1,ca1,bz1,hva1,hz1⟩:=q1.at;clear hz1;have BL1:=BE.trans F1.1;clear q1 q2 q3 q4;have cc1:w1F.cell? ⟨B,0,none⟩=some v1:=(by rw [cell_of_row _ _ _ _ _ _ e1];rfl);have ff1:w1F.frozen? ⟨B,0,none⟩=false:=frozen_of_row _ _ _ _ _ e1;have cn1:(w1F.setCell ⟨B,0,none⟩ tz).cell? ⟨B,1,none⟩=some v2:=(by rw [cell_of_row _ _ _ _ _ _ P1.bk];rfl);have cm1:w1F.cell? ⟨B,1,none⟩=some v2:=(by rw [cell_of_row _ _ _ _ _ _ e1];rfl);simp only [List.length_append,List.length_cons,List.length_nil,Nat.zero_add]at hva1;subst hva1)
       | (at_builtin;refine iE rfl (.tmp 61) (.tmp 63) rfl base _ _ [.slice y2 (k+1) cy2] rfl P1.o2 (by rw [World.size_setCell];rfl) (by intro y hy;rw [List.mem_singleton.1 hy];exact KX2.out) KL2.out (KB.out _ BL1) _ _ ?_;intro tA w2F q1 q2 q3 q4;obtain⟨e2,P2,F2⟩:=P1.push2 q1 q2 q3 q4;have T2:=q4;obtain⟨sa2,ca2,bz2,hva2,hz2⟩:=q1.at;clear hz2;have BL2:=BL1.trans F2.1;clear q1 q2 q3 q4;have cc2:w2F.cell? ⟨B,1,none⟩=some v2:=(by rw [cell_of_row _ _ _ _ _ _ e2];rfl);have ff2:w2F.frozen? ⟨B,1,none⟩=false:=frozen_of_row _ _ _ _ _ e2;have cn2:(w2F.setCell ⟨B,1,none⟩ tA).cell? ⟨B,2,none⟩=some v3:=(by rw [cell_of_row _ _ _ _ _ _ P2.bk];rfl);have cm2:w2F.cell? ⟨B,2,none⟩=some v3:=(by rw [cell_of_row _ _ _ _ _ _ e2];rfl);simp only [List.length_append,List.length_cons,List.length_nil,Nat.zero_add]at hva2;subst hva2)
       | (at_builtin;refine iE rfl (.tmp 71) (.tmp 73) rfl base _ _ [.slice y3 (k+2) cy3] rfl P2.o3 (by rw [World.size_setCell];rfl) (by intro y hy;rw [List.mem_singleton.1 hy];exact KX3.out) KL3.out (KB.out _ BL2) _ _ ?_;intro tB w3F q1 q2 q3 q4;obtain⟨e3,P3,F3⟩:=P2.push3 q1 q2 q3 q4;have T3:=q4;obtain⟨sa3,ca3,bz3,hva3,hz3⟩:=q1.at;clear hz3;have BL3:=BL2.trans F3.1;clear q1 q2 q3 q4;have cc3:w3F.cell? ⟨B,2,none⟩=some v3:=(by rw [cell_of_row _ _ _ _ _ _ e3];rfl);have ff3:w3F.frozen? ⟨B,2,none⟩=false:=frozen_of_row _ _ _ _ _ e3;have cn3:(w3F.setCell ⟨B,2,none⟩ tB).cell? ⟨B,3,none⟩=some v4:=(by rw [cell_of_row _ _ _ _ _ _ P3.bk];rfl);have cm3:w3F.cell? ⟨B,3,none⟩=some v4:=(by rw [cell_of_row _ _ _ _ _ _ e3];rfl);simp only [List.length_append,List.length_cons,List.length_nil,Nat.zero_add]at hva3;subst hva3)
       | (at_builtin;refine iE rfl (.tmp 81) (.tmp 83) rfl base _ _ [.slice y4 (k+300) cy4] rfl P3.o4 (by rw [World.size_setCell];rfl) (by intro y hy;rw [List.mem_singleton.1 hy];exact KX4.out) KL4.out (KB.out _ BL3) _ _ ?_;intro uK Tu q1 q2 q3 q4;obtain⟨e4,P4,F4⟩:=P3.push4 q1 q2 q3 q4;have T4:=q4;obtain⟨sa4,ca4,bz4,hva4,hz4⟩:=q1.at;clear hz4;have BL4:=BL3.trans F4.1;clear q1 q2 q3 q4;have cc4:Tu.cell? ⟨B,3,none⟩=some v4:=(by rw [cell_of_row _ _ _ _ _ _ e4];rfl);have ff4:Tu.frozen? ⟨B,3,none⟩=false:=frozen_of_row _ _ _ _ _ e4;simp only [List.length_append,List.length_cons,List.length_nil,Nat.zero_add]at hva4;subst hva4))
         have z0:=hK.out.1.size
         have z1:=F1.1.size
         have z2:=F2.1.size
         have z3:=F3.1.size
         obtain⟨t2,t3,t4⟩:=Wb.out
         go_end0
         refine⟨rfl,_,_,_,_,_,_,_,P4,t2,t3,t4,qP T1 (by omega),qP T2 (by omega),qP T3 (by omega),qP T4 (by omega),fun q a1 a2 a3 a4 a5 a6 a7=>?_,BL4⟩
         rw [F4.2 q (by omega) a3 a7,F3.2 q (by omega) a3 a6,F2.2 q (by omega) a3 a5,F1.2 q (by omega) a3 a4,hK.out.2 q a1 a2]
end Go.Proofs.YtpdakmhnnkaafaaGreat.Bo
namespace Go.Proofs.YtpdakmhnnkaafaaGreat
set_option maxRecDepth 100000
set_option maxHeartbeats 40000000
set_option linter.unusedVariables false
set_option linter.unusedSimpArgs false
open Go.RowKit
open Go.Proofs.YtpdakmhnnkaafaaGreat.Ca (Ct ct0 av bV AS)
attribute [local go_sem ↓] Go.wp_at_zero Go.wp_at_succ
structure Wr where
 g:Nat
 B:Nat
 v1:Value
 v2:Value
 v3:Value
 v4:Value
 L1:List Value
 L2:List Value
 L3:List Value
 L4:List Value
 sl:Value
 wl:Value
 Ss:List Value
 Ws:List Value
 room:Value
 zr:List Int
 turn:Nat
 dl:Value
 tl:Value
def kH(dl tl:Value)(B:Nat)(sl wl room:Value)(turn:Int):Array Value:= #[dl,tl, .pointer (some ⟨B,0,none⟩),sl,wl, .int .i64 turn,room]
def Wr.fp(W:Wr):List Nat:=W.g::W.B::(W.v1.ownBlock.toList++(W.v2.ownBlock.toList++(W.v3.ownBlock.toList++(W.v4.ownBlock.toList++(W.sl.ownBlock.toList++(W.wl.ownBlock.toList++W.room.ownBlock.toList))))))
theorem Wr.mem(W:Wr)(k:Nat):k∈W.fp↔(k=W.g\/k=W.B\/W.v1.ownBlock=some k\/W.v2.ownBlock=some k\/W.v3.ownBlock=some k\/W.v4.ownBlock=some k\/W.sl.ownBlock=some k\/W.wl.ownBlock=some k\/W.room.ownBlock=some k):=by
 simp only [Wr.fp,List.mem_cons,List.mem_append,Option.mem_toList]
structure WO (w:World) (base:Nat) (W:Wr) (c:Nat):Prop where
 hg:base<=W.g
 row:w.heap[W.g]? =some (.cells (kH W.dl W.tl W.B W.sl W.wl W.room W.turn) 33 (0,0))
 pb:Bo.PB w base W.B W.v1 W.v2 W.v3 W.v4 W.L1 W.L2 W.L3 W.L4
 st:Bo.cw w base W.sl W.Ss
 wt:Bo.cw w base W.wl W.Ws
 dsw:Bo.Dj W.sl W.wl
 ds1:Bo.Dj W.sl W.v1
 ds2:Bo.Dj W.sl W.v2
 ds3:Bo.Dj W.sl W.v3
 ds4:Bo.Dj W.sl W.v4
 dw1:Bo.Dj W.wl W.v1
 dw2:Bo.Dj W.wl W.v2
 dw3:Bo.Dj W.wl W.v3
 dw4:Bo.Dj W.wl W.v4
 rm:Own w base W.room W.zr
 rz:W.zr= []\/W.zr.length=600
 l1:W.L1.length<=c
 l2:W.L2.length=W.L1.length
 l3:W.L3.length=W.L1.length
 l4:W.L4.length=W.L1.length
 ls:W.Ss.length<=c
 lw:W.Ws.length<=c
 tu:W.turn<=c
theorem WO.keep{w w1:World}{base:Nat}{W:Wr}{c:Nat}(h:WO w base W c)(hk: ∀k∈W.fp,w1.heap[k]? =w.heap[k]?):WO w1 base W c:=by
 have hm: ∀k,(k=W.g\/k=W.B\/W.v1.ownBlock=some k\/W.v2.ownBlock=some k\/W.v3.ownBlock=some k\/W.v4.ownBlock=some k\/W.sl.ownBlock=some k\/W.wl.ownBlock=some k\/W.room.ownBlock=some k)->w1.heap[k]? =w.heap[k]? :=fun k q=>hk k ((W.mem k).2 q)
 exact⟨h.hg,(hm W.g (by simp)).trans h.row,⟨h.pb.hb,(hm W.B (by simp)).trans h.pb.bk,h.pb.o1.of_heap fun k e=>hm k (by simp [e]),h.pb.o2.of_heap fun k e=>hm k (by simp [e]),h.pb.o3.of_heap fun k e=>hm k (by simp [e]),h.pb.o4.of_heap fun k e=>hm k (by simp [e]),h.pb.d12,h.pb.d13,h.pb.d14,h.pb.d23,h.pb.d24,h.pb.d34⟩,h.st.of_heap fun k e=>hm k (by simp [e]),h.wt.of_heap fun k e=>hm k (by simp [e]),h.dsw,h.ds1,h.ds2,h.ds3,h.ds4,h.dw1,h.dw2,h.dw3,h.dw4,h.rm.of_heap fun k e=>hm k (by simp [e]),h.rz,h.l1,h.l2,h.l3,h.l4,h.ls,h.lw,h.tu⟩
theorem WO.more{w:World}{base:Nat}{W:Wr}{c:Nat}(h:WO w base W c)(d:Nat)(hd:c<=d):WO w base W d:=⟨h.hg,h.row,h.pb,h.st,h.wt,h.dsw,h.ds1,h.ds2,h.ds3,h.ds4,h.dw1,h.dw2,h.dw3,h.dw4,h.rm,h.rz,Nat.le_trans h.l1 hd,h.l2,h.l3,h.l4,Nat.le_trans h.ls hd,Nat.le_trans h.lw hd,Nat.le_trans h.tu hd⟩
theorem WO.ty{w:World}{base:Nat}{W:Wr}{c:Nat}(h:WO w base W c){k:Nat}(hk:k∈W.fp):base<=k/\k<w.heap.size/\((∃cs t,w.heap[k]? =some (.cells cs t (0,0))/\(t=33\/t=55\/t=31))\/W.room.ownBlock=some k):=by
 have hS: ∀{u:Value} {us:List Value},Bo.cw w base u us->u.ownBlock=some k->base<=k/\k<w.heap.size/\((∃cs t,w.heap[k]? =some (.cells cs t (0,0))/\(t=33\/t=55\/t=31))\/W.room.ownBlock=some k):=fun hu e=>by
   obtain⟨a1,a2,x,a3⟩:=hu.heap k e
   exact⟨a1,a2,Or.inl ⟨x,_,a3,Or.inr (Or.inr rfl)⟩⟩
 rcases(W.mem k).1 hk with e| e| e| e| e| e| e| e| e
 · exact⟨e▸h.hg,e▸aC h.row,Or.inl ⟨_,_,e▸h.row,Or.inl rfl⟩⟩
 · exact⟨e▸h.pb.hb,e▸aC h.pb.bk,Or.inl ⟨_,_,e▸h.pb.bk,Or.inr (Or.inl rfl)⟩⟩
 · exact hS h.pb.o1 e
 · exact hS h.pb.o2 e
 · exact hS h.pb.o3 e
 · exact hS h.pb.o4 e
 · exact hS h.st e
 · exact hS h.wt e
 · obtain⟨a1,cs,a2⟩:=aH h.rm k e
   exact⟨a1,aC a2,Or.inr e⟩
theorem SK.xy{w:World}{base:Nat}{S:au}(h:SK w base S){k:Nat}{cs:Array Value}{t:TypeId}(hc:w.heap[k]? =some (.cells cs t (0,0)))(ht:t=33\/t=55\/t=31\/t=38\/t=46\/t=42\/t=44):k∉S.fp:=by
 intro hk
 rcases(au.mem S k).1 hk with e| e| e| e| e| e
 · subst e;exact cL hc h.fk (by rcases ht with r| r| r| r| r| r| r<;>rw [r]<;>decide) rfl
 · subst e;exact cL hc h.sk (by rcases ht with r| r| r| r| r| r| r<;>rw [r]<;>decide) rfl
 · exact h.da.cS hc (by rcases ht with r| r| r| r| r| r| r<;>rw [r]<;>decide) (by rcases ht with r| r| r| r| r| r| r<;>rw [r]<;>decide) (by rcases ht with r| r| r| r| r| r| r<;>rw [r]<;>decide) e
 · exact h.ca.cS hc (by rcases ht with r| r| r| r| r| r| r<;>rw [r]<;>decide) (by rcases ht with r| r| r| r| r| r| r<;>rw [r]<;>decide) e
 · obtain⟨_,cs2,hc2⟩:=h.lb k e
   exact cL hc hc2 (by rcases ht with r| r| r| r| r| r| r<;>rw [r]<;>decide) rfl
 · obtain⟨_,cs2,hc2⟩:=h.Aj e
   exact cL hc hc2 (by rcases ht with r| r| r| r| r| r| r<;>rw [r]<;>decide) rfl
def gK(W:Wr)(S:au):Prop:= ∀k,W.room.ownBlock=some k->k∉S.fp
theorem WO.off{w:World}{base:Nat}{W:Wr}{c:Nat}{S:au}(h:WO w base W c)(hs:SK w base S)(hr:gK W S){k:Nat}(hk:k∈W.fp):k∉S.fp:=by
 obtain⟨_,_,⟨cs,t,a,b⟩| e⟩:=h.ty hk
 · exact hs.xy a (by rcases b with r| r| r<;>simp [r])
 · exact hr k e
theorem SK.lh{w w1:World}{base:Nat}{S:au}(h:SK w base S)(hk: ∀k∈S.fp,w1.heap[k]? =w.heap[k]?)(hs:w.heap.size<=w1.heap.size):SK w1 base S:=
 h.of_heap (fun k q=>hk k ((au.mem S k).2 (by rcases q with q| q| q| q| q| q<;>simp [q]))) hs
def aK(kd at_ n m:Int)(rv:Value)(bt:Nat):Array Value:= #[.int .i64 kd, .int .i64 at_, .int .i64 n, .int .i64 m,rv, .int .u32 bt]
def cT(E N:Int)(rv:Value)(s:aD)(t1 t2 t3 t4 t5:Int):Array Value:= #[.int .i64 E, .int .i64 N, .bool false,rv, .int .i64 s.wd, .int .i64 s.ge, .int .i64 s.ma, .int .i64 s.hd, .int .i64 s.pg, .int .i64 t1, .int .i64 t2, .int .i64 t3, .int .i64 t4, .int .i64 t5, .int .i64 0, .int .i64 0, .int .i64 0, .int .i64 0]
def cf:Array Value:=cT 0 0 (.slice none 0 0) sup0 0 0 0 0 0
theorem Qy(kd at_ n m:Int)(sp:Option Addr)(l c bt:Nat)(w:World):(Instr.box 38 (.agg (aK kd at_ n m (.slice sp l c) bt))).run Tryz.prog w= .ok (.pointer (some ⟨w.heap.size,0,none⟩)) (w.alloc (.cells (aK kd at_ n m (.slice sp l c) bt) 38)):=by kernel_rfl
theorem cQ{w:World}{ops:Array Oper}{rest:List Oper}{o:Oper}{a:Act}{Q:Exit->Act->World->Prop}(hg:o.guard=none)(x:Operand)(ho:o.op= .box 38 x)(kd at_ n m:Int)(sp:Option Addr)(l c bt:Nat)(hx:a.eval x= .agg (aK kd at_ n m (.slice sp l c) bt))
   (h:wpList Tryz.prog ops Q rest (a.put o.dst (.pointer (some ⟨w.heap.size,0,none⟩))) (w.alloc (.cells (aK kd at_ n m (.slice sp l c) bt) 38))):wpList Tryz.prog ops Q (o::rest) a w:=by
 refine wpList_plain hg fun K hK=>?_
 unfold Oper.wp execOp
 simp only [ho,hx,Sem.run_bind,Qy,Result.andThen_ok,Sem.run_pure]
 exact hK _ _ h
theorem ku:(Tryz.prog.info? 46).map (·.size)=some 18:=by kernel_rfl
theorem ia(E N:Int)(rv:Value)(s:aD)(t1 t2 t3 t4 t5:Int):(Tryz.prog.info? 46).map (·.size)=some (cT E N rv s t1 t2 t3 t4 t5).size:=by rw [ku];rfl
theorem oQ(E N:Int)(sp:Option Addr)(l c:Nat)(s:aD)(t1 t2 t3 t4 t5:Int):(cT E N (.slice sp l c) s t1 t2 t3 t4 t5).all (·.oneCell')=true:=by simp [cT,Value.oneCell']
theorem UU(s:aD)(w:World):(Instr.build 46 #[(4, .agg (ae s))]).run Tryz.prog w= .ok (.agg (cT 0 0 (.slice none 0 0) s 0 0 0 0 0)) w:=by kernel_rfl
theorem UW(t1 t2 t3 t4 t5:Int)(w:World):(Instr.build 46 #[(5, .agg #[.int .i64 t1, .int .i64 t2, .int .i64 t3, .int .i64 t4, .int .i64 t5])]).run Tryz.prog w= .ok (.agg (cT 0 0 (.slice none 0 0) sup0 t1 t2 t3 t4 t5)) w:=by kernel_rfl
theorem Jd(E N:Int)(sp:Option Addr)(l c:Nat)(w:World):(Instr.build 46 #[(0, .int .i64 E),(1, .int .i64 N),(3, .slice sp l c)]).run Tryz.prog w= .ok (.agg (cT E N (.slice sp l c) sup0 0 0 0 0 0)) w:=by kernel_rfl
theorem mF{w:World}{ops:Array Oper}{rest:List Oper}{o:Oper}{a:Act}{Q:Exit->Act->World->Prop}(hg:o.guard=none)(f:Nat)(x:Operand)(ho:o.op= .build 46 #[(f,x)])(y:Value)(hx:a.eval x=y)(r:Array Value)(hr: ∀w:World,(Instr.build 46 #[(f,y)]).run Tryz.prog w= .ok (.agg r) w)
   (h:wpList Tryz.prog ops Q rest (a.put o.dst (.agg r)) w):wpList Tryz.prog ops Q (o::rest) a w:=by
 refine wpList_plain hg fun K hK=>?_
 unfold Oper.wp execOp
 simp only [ho,List.map_toArray,List.map_cons,List.map_nil,hx,Sem.run_bind,hr,Result.andThen_ok,Sem.run_pure]
 exact hK _ _ h
theorem rH{w:World}{ops:Array Oper}{rest:List Oper}{o:Oper}{a:Act}{Q:Exit->Act->World->Prop}(hg:o.guard=none)(f f2 f3:Nat)(x x2 x3:Operand)(ho:o.op= .build 46 #[(f,x),(f2,x2),(f3,x3)])(y y2 y3:Value)(hx:a.eval x=y)(hx2:a.eval x2=y2)(hx3:a.eval x3=y3)(r:Array Value)(hr: ∀w:World,(Instr.build 46 #[(f,y),(f2,y2),(f3,y3)]).run Tryz.prog w= .ok (.agg r) w)
   (h:wpList Tryz.prog ops Q rest (a.put o.dst (.agg r)) w):wpList Tryz.prog ops Q (o::rest) a w:=by
 refine wpList_plain hg fun K hK=>?_
 unfold Oper.wp execOp
 simp only [ho,List.map_toArray,List.map_cons,List.map_nil,hx,hx2,hx3,Sem.run_bind,hr,Result.andThen_ok,Sem.run_pure]
 exact hK _ _ h
structure Pn (w w2:World) (oc:Array Value):Prop where
 bl:Below w.heap.size w w2
 sz:w2.heap.size=w.heap.size+2
 op:w2.heap[w.heap.size]? =some (.cells oc 38 (0,0))
 an:w2.heap[w.heap.size+1]? =some (.cells cf 46 (0,0))
theorem Pn.mk'(w:World)(oc:Array Value):Pn w ((w.alloc (.cells oc 38)).alloc (.cells cf 46)) oc:=by
 have s1:(w.alloc (.cells oc 38)).heap.size=w.heap.size+1:=by simp
 refine⟨(aq w _).trans ((aq _ _).mono (by omega)),by simp,hold (aF w _),?_⟩
 rw [<-s1];exact aF _ _
def Qz(kd nn:Int)(zr:List Int)(S S':au)(E N:Int)(rz:List Int)(s:aD)(t:List Int):Prop:=
 (kd=2/\Gc S nn S' N E rz/\s=sup0/\t= [0,0,0,0,0])∨
 (kd=3/\nH S nn (zr.take 300) S' N E/\rz= []/\s=sup0/\t= [0,0,0,0,0])∨
 (kd=4/\yx S nn S' E/\N=0/\rz= []/\s=sup0/\t= [0,0,0,0,0])∨
 (kd=5/\qd S nn S' E/\N=0/\rz= []/\s=sup0/\t= [0,0,0,0,0])∨
 ((6<=kd/\kd<=11)/\S'=S/\E=(if kd=6 then ak S.D S.ep else 0)/\N=(if kd=8 then S.s.ma+S.aB.length else if kd=9 then(S.aB.length:Int)else if kd=10 then(S.D.np:Int)else 0)/\rz= []/\s=(if kd=7 then S.s else sup0)/\t=(if kd=11 then [(S.a.bc:Int),(S.a.misses:Int),(S.a.gone:Int),(S.a.clean.length:Int),(S.a.held.length:Int)]else [0,0,0,0,0]))
def iZ(w:World)(base:Nat)(S:au)(kd nn:Int)(zr:List Int)(W:Wr)(c:Nat)(e:Ending)(w':World):Prop:= ∃S' W' E N rv rz s t1 t2 t3 t4 t5,e= .returned (.agg (cT E N rv s t1 t2 t3 t4 t5))/\(Own w' w.heap.size rv rz/\ ∀k,rv.ownBlock=some k->k∉S'.fp/\k∉W'.fp)∧
 Qz kd nn zr S S' E N rz s [t1,t2,t3,t4,t5]/\SK w' base S'/\WO w' base W' (c+1)/\gK W' S'/\(W'.g=W.g/\W'.dl=W.dl/\W'.tl=W.tl)/\Below base w w'/\Fr (S.fp++W.fp) w w'/\Gr w S.fp S'.fp/\Gr w W.fp W'.fp
theorem kI{w w2 w3:World}{base:Nat}{S S':au}{c:Nat}{W:Wr}{oc:Array Value}(h:SK w base S)(hW:WO w base W c)(hr:gK W S)(hP:Pn w w2 oc)(hO:cH w2 base S S' w3)(cs:Array Value):
   SK (w3.setRow (w.heap.size+1) cs) base S'/\WO (w3.setRow (w.heap.size+1) cs) base W (c+1)/\gK W S'/\Below base w (w3.setRow (w.heap.size+1) cs)/\Fr (S.fp++W.fp) w (w3.setRow (w.heap.size+1) cs)/\Gr w S.fp S'.fp:=by
 obtain⟨hS,hb,hf,hg⟩:=hO
 have cX:=h.base
 have hsz:=hP.sz
 have ne1: ∀k∈S'.fp,k≠w.heap.size+1:=fun k hk=>by
   rcases hg k hk with q| q
   · have:=(h.cF q).2;omega
   · omega
 have old: ∀k,k<w.heap.size->k∉S.fp->(w3.setRow (w.heap.size+1) cs).heap[k]? =w.heap[k]? :=fun k a q=>(setRow_other _ _ _ _ (by omega)).trans ((hf.block k (by omega) q).trans (hP.bl.block k a))
 refine⟨hS.lh (fun k hk=>setRow_other _ _ _ _ (ne1 k hk)) (by rw [size_setRow];exact Nat.le_refl _),(hW.keep fun k hk=>old k (hW.ty hk).2.1 (hW.off h hr hk)).more _ (by omega),fun k e q=>?_,?_,?_,fun k q=>(hg k q).imp id (fun z=>by omega)⟩
 · rcases hg k q with z| z
   · exact hr k e z
   · have:=(hW.ty ((W.mem k).2 (by simp [e]))).2.1;omega
 · exact below_setRow ((hP.bl.mono cX).trans hb) (by omega) cs
 · have:=hf.size
   exact⟨hf.os.trans hP.bl.os,hf.tape.trans hP.bl.tape,hf.output.trans hP.bl.output,by rw [size_setRow];omega,fun k a q=>old k a fun z=>q (List.mem_append_left _ z)⟩
end Go.Proofs.YtpdakmhnnkaafaaGreat

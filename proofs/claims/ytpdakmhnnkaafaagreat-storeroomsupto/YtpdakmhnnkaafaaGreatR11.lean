import Derived.Maps.RangeWalk
import Derived.Test.YtpdakmhnnkaafaaGreatR10
namespace Go.Proofs.YtpdakmhnnkaafaaGreat.Ca
set_option maxRecDepth 100000
set_option maxHeartbeats 40000000
set_option linter.unusedVariables false
set_option linter.unusedSimpArgs false
open Go.RowKit
attribute [local go_sem ↓] Go.wp_at_zero Go.wp_at_succ
theorem Bq{w:World}{base p m n:Nat}{s:bw}(h:CK w base p m n s)(r:Bool):w.cell? ⟨p,eA r+2,none⟩=some (.int .i64 (s.row r).count):=by cases r<;>first| exact h.c4| exact h.c7
theorem Kz{w:World}{base p m n:Nat}{s:bw}(h:CK w base p m n s)(r:Bool):w.cell? ⟨p,eA r,none⟩=some (cO (s.row r).first):=by cases r<;>first| exact h.c2| exact h.c5
theorem NJ{w:World}{base p m n:Nat}{s:bw}(h:CK w base p m n s)(r:Bool):w.cell? ⟨p,eA r+1,none⟩=some (cO (s.row r).last):=by cases r<;>first| exact h.c3| exact h.c6
theorem yh(w:World)(base p m n:Nat)(s:bw)(h:CK w base p m n s)(r:Bool)(b a:Option Nat)(hb:kW s b)(ha:kW s a)(o:Nat)(ho:o=eA r)(vb va:Value)(uD:vb=cO b)(gZ:va=cO a):
   Calls Tryz.prog 93 #[.pointer (some ⟨p,o,none⟩),vb,va] w fun e w'=>e= .returned (.tuple #[])/\LN base p m n s w (s.join r b a) w':=by
 subst ho uD gZ;exact Ky w base p m n s h r b a hb ha
theorem Br(w:World)(base p m n:Nat)(s:bw)(h:CK w base p m n s)(r:Bool)(b:Option Nat)(e:Nat)(a:Option Nat)(hb:kW s b)(he:e∈s.bs)(ha:kW s a)(hc:0<=(s.row r).count/\(s.row r).count<4000000000000000000)(o:Nat)(ho:o=eA r)(vb va:Value)(uD:vb=cO b)(gZ:va=cO a):
   Calls Tryz.prog 94 #[.pointer (some ⟨p,o,none⟩),vb, .pointer (some ⟨e,0,none⟩),va] w fun x w'=>x= .returned (.tuple #[])/\LN base p m n s w (s.link r b e a) w':=by
 have H1:=aa (yh w base p m n s h r b (some e) hb (fun x q=>by cases q;exact he) o ho vb (.pointer (some ⟨e,0,none⟩)) uD rfl)
 have H2:=aa (fun w1 (q:LN base p m n s w (s.join r b (some e)) w1)=>yh w1 base p m n _ q.1 r (some e) a (fun x q2=>by cases q2;rw [q.2.2];exact he) (fun x q2=>by rw [q.2.2];exact ha x q2) o ho (.pointer (some ⟨e,0,none⟩)) va rfl gZ)
 have hcc:((s.join r b (some e)).join r (some e) a|>.row r).count=(s.row r).count:=by rw [fN,fN]
 have H3:=aa (fun w1 w2 (q1:LN base p m n s w (s.join r b (some e)) w1) (q2:LN base p m n (s.join r b (some e)) w1 ((s.join r b (some e)).join r (some e) a) w2)=>(by
   have q:=q1.trans q2
   have e1:=Bq q.1 r
   have e2:=q.1.count r ((s.row r).count+1)
   rw [hcc]at e1
   subst ho
   exact⟨e1,q.1.fz (eA r+2),by unfold CS.link;simp only;rw [hcc];exact e2,q.2.1.setCell (kV p m s) _ _,(Sm.link s r b e a).bs⟩:w2.cell? ⟨p,o+2,none⟩=some (.int .i64 (s.row r).count)/\w2.frozen? ⟨p,o+2,none⟩=false/\LN base p m n s w (s.link r b e a) (w2.setCell ⟨p,o+2,none⟩ (.int .i64 ((s.row r).count+1)))))
 have k1:=hc.1
 have k2:=hc.2
 clear h hc hcc ha he hb ho uD gZ
 generalize (s.row r).count=C at*
 generalize s.link r b e a=L at*
 generalize (s.join r b (some e)).join r (some e) a=J2 at*
 generalize s.join r b (some e)=J1 at*
 go_enter Tryz.func94,Tryz.ntmps94
 go_wp2_with (first
   | (go_at_call 93;refine H1.out.mono ?_;rintro e w1 ⟨rfl,hl1⟩;clear H1)
   | (go_at_call 93;refine(H2.out w1 hl1).mono ?_;rintro e w2 ⟨rfl,hl2⟩;obtain⟨c7,f7,hL⟩:=H3.out w1 w2 hl1 hl2;clear H2 H3 hl1 hl2))
 go_end0
 exact⟨rfl,hL⟩
theorem CK.drew{w:World}{base p m n:Nat}{s:bw}(h:CK w base p m n s):CK w.drew base p m n s:=⟨h.cell,h.ents,h.mp,h.kwf,h.bp,h.bm,h.bb⟩
theorem LN.Hw{w w1:World}{base p m n:Nat}{s t:bw}(h:LN base p m n s w.drew t w1):LN base p m n s w t w1:=⟨h.1,⟨h.2.1.os,h.2.1.tape,h.2.1.output,h.2.1.size,h.2.1.block⟩,h.2.2⟩
theorem KD{base p m n:Nat}{s:bw}{r:Bool}{e:Nat}{w w1:World}(q:LN base p m n s w (s.join r (s.E e).eM (s.E e).eV) w1):
   w1.cell? ⟨p,eA r+2,none⟩=some (.int .i64 (s.row r).count)/\w1.frozen? ⟨p,eA r+2,none⟩=false/\LN base p m n s w (s.aZ r e) (w1.setCell ⟨p,eA r+2,none⟩ (.int .i64 ((s.row r).count-1))):=by
 have hcc:((s.join r (s.E e).eM (s.E e).eV).row r).count=(s.row r).count:=by rw [fN]
 have e1:=Bq q.1 r
 have e2:=q.1.count r ((s.row r).count-1)
 rw [hcc]at e1
 exact⟨e1,q.1.fz (eA r+2),by unfold CS.aZ;simp only;rw [hcc];exact e2,q.2.1.setCell (kV p m s) _ _,(Sm.aZ s r e).bs⟩
theorem lT(w:World)(base p m n:Nat)(s:bw)(h:CK w base p m n s)(r:Bool)(e:Nat)(he:e∈s.bs)(hb:kW s (s.E e).eM)(ha:kW s (s.E e).eV)(nb:(s.E e).eM≠some e)(na:(s.E e).eV≠some e)(hc:0<(s.row r).count/\(s.row r).count<4000000000000000000)(o:Nat)(ho:o=eA r):
   Calls Tryz.prog 67 #[.pointer (some ⟨p,o,none⟩), .pointer (some ⟨e,0,none⟩)] w fun x w'=>x= .returned (.tuple #[])/\LN base p m n s w (s.aZ r e) w':=by
 have cp:=h.ep he
 have cn:=h.en he
 have H1:=aa (fun vb va uD gZ=>yh w.drew base p m n s h.drew r (s.E e).eM (s.E e).eV hb ha o ho vb va uD gZ)
 have H3:=aa (fun w1 (q:LN base p m n s w.drew (s.join r (s.E e).eM (s.E e).eV) w1)=>KD q.Hw)
 have HK:=aa (fun w1 (q:LN base p m n s w.drew (s.join r (s.E e).eM (s.E e).eV) w1)=>(by
   have e1:=q.1.ep (b:=e) (by rw [q.2.2];exact he)
   have e2:=q.1.en (b:=e) (by rw [q.2.2];exact he)
   rw [kj,if_neg na]at e1
   rw [ko,if_neg nb]at e2
   exact⟨e1,e2⟩:w1.cell? ⟨e,4,none⟩=some (cO (s.E e).eM)/\w1.cell? ⟨e,5,none⟩=some (cO (s.E e).eV)))
 rw [<-ho]at H3
 have k1:=hc.1
 have k2:=hc.2
 clear h hc ha he hb ho nb na
 generalize (s.row r).count=C at*
 generalize s.aZ r e=L at*
 generalize (s.join r (s.E e).eM (s.E e).eV)=J1 at*
 generalize uD:cO (s.E e).eM=vb at*
 generalize gZ:cO (s.E e).eV=va at*
 go_enter Tryz.func67,Tryz.ntmps67
 go_wp2
 refine wp_region_noPanic ?_
 refine wp_region_held_drew (S:=fun w'=>w'.cell? ⟨e,4,none⟩=some vb/\w'.cell? ⟨e,5,none⟩=some va) (by kernel_rfl) ⟨cp,cn⟩ (fun hHeld=>?_)
 refine ai 0 (.pointer (some ⟨p,o,none⟩)) rfl hHeld ?_
 try go_frame
 refine ai 1 (.pointer (some ⟨e,0,none⟩)) rfl hHeld ?_
 try go_frame
 refine ai 5 (.pointer (some ⟨e,0,none⟩)) rfl hHeld ?_
 try go_frame
 refine ai 2 (.pointer (some ⟨e,0,none⟩)) rfl hHeld ?_
 try go_frame
 refine ai 6 (.pointer (some ⟨e,0,none⟩)) rfl hHeld ?_
 try go_frame
 refine ai 3 (.pointer (some ⟨e,4,none⟩)) rfl hHeld ?_
 try go_frame
 refine ai 7 (.pointer (some ⟨e,5,none⟩)) rfl hHeld ?_
 try go_frame
 refine aV 4 (vb) rfl (yA (by intro w hS;have hc:=hS.1;go_simp)) hHeld ?_
 try go_frame
 refine aV 8 (va) rfl (yA (by intro w hS;have hc:=hS.2;go_simp)) hHeld ?_
 try go_frame
 refine bR 9 rfl (fun K hK=>?_)
 go_simp
 go_at_call 93
 refine(H1.out vb va rfl rfl).mono ?_
 rintro e w1 ⟨rfl,hl1⟩
 go_wp2_with fail
 refine hK.out _ _ (HK.out w1 hl1) ?_
 clear hK K hHeld
 intro hHeld
 obtain⟨c7,f7,hL⟩:=H3.out w1 hl1
 clear H1 H3 HK hl1
 try go_frame
 refine dY ?_
 go_wp2
 go_end0
 exact⟨rfl,hL⟩
theorem mC(w:World)(base p m n:Nat)(s:bw)(h:CK w base p m n s)(r:Bool)(e:Nat)(he:e∈s.bs)(hf:kW s (s.row r).first)(hc:0<=(s.row r).count/\(s.row r).count<4000000000000000000)(o:Nat)(ho:o=eA r):
   Calls Tryz.prog 70 #[.pointer (some ⟨p,o,none⟩), .pointer (some ⟨e,0,none⟩)] w fun x w'=>x= .returned (.tuple #[])/\LN base p m n s w (s.dA r e) w':=by
 have cp:=Kz h r
 rw [<-ho]at cp
 have H1:=aa (fun va gZ=>Br w base p m n s h r none e (s.row r).first (fun x q=>by cases q) he hf hc o ho (.pointer none) va rfl gZ)
 clear h hc he hf ho
 unfold CS.dA
 generalize (s.link r none e (s.row r).first)=J1 at*
 generalize cO (s.row r).first=vb at*
 go_enter Tryz.func70,Tryz.ntmps70
 go_wp2_with (go_at_call 94;refine(H1.out vb rfl).mono ?_;rintro e w1 ⟨rfl,hl1⟩)
 go_end0
 exact⟨rfl,hl1⟩
theorem Bt(w:World)(base p m n:Nat)(s:bw)(h:CK w base p m n s)(r:Bool)(e:Nat)(he:e∈s.bs)(hf:kW s (s.row r).last)(hc:0<=(s.row r).count/\(s.row r).count<4000000000000000000)(o:Nat)(ho:o=eA r):
   Calls Tryz.prog 68 #[.pointer (some ⟨p,o,none⟩), .pointer (some ⟨e,0,none⟩)] w fun x w'=>x= .returned (.tuple #[])/\LN base p m n s w (s.iu r e) w':=by
 have cp:=NJ h r
 rw [<-ho]at cp
 have H1:=aa (fun va gZ=>Br w base p m n s h r (s.row r).last e none hf he (fun x q=>by cases q) hc o ho va (.pointer none) gZ rfl)
 clear h hc he hf ho
 unfold CS.iu
 generalize (s.link r (s.row r).last e none)=J1 at*
 generalize cO (s.row r).last=vb at*
 go_enter Tryz.func68,Tryz.ntmps68
 go_wp2_with (go_at_call 94;refine(H1.out vb rfl).mono ?_;rintro e w1 ⟨rfl,hl1⟩)
 go_end0
 exact⟨rfl,hl1⟩
end Go.Proofs.YtpdakmhnnkaafaaGreat.Ca
namespace Go.Proofs.YtpdakmhnnkaafaaGreat.Ca
set_option maxRecDepth 100000
set_option maxHeartbeats 40000000
set_option linter.unusedVariables false
set_option linter.unusedSimpArgs false
section
variable {κ ν:Type}
structure Ref (s:CS κ ν) (L:Bool->List Nat) (x:Option Nat):Prop where
 row: ∀r,fU s r (L r)
 nd: ∀r,(L r).Nodup
 pZ: ∀b∈L true,b∉L false
 xo: ∀e,x=some e-> ∀r,e∉L r
 dom: ∀r,∀b∈L r,b∈s.bs
 xdom: ∀e,x=some e->e∈s.bs
 flag: ∀r,∀b∈L r,(s.E b).held=!r
 keys: ∀b,((∃r,b∈L r)\/x=some b)->s.look (s.E b).key=some b
 only: ∀k b,s.look k=some b->((∃r,b∈L r)\/x=some b)/\(s.E b).key=k
def fq(L:Bool->List Nat)(r:Bool)(l:List Nat):Bool->List Nat:=fun q=>if q=r then l else L q
theorem cV(L:Bool->List Nat)(r:Bool)(l:List Nat):fq L r l r=l:=if_pos rfl
theorem eO(L:Bool->List Nat){r q:Bool}(l:List Nat)(h:q≠r):fq L r l q=L q:=if_neg h
theorem Ref.FE{s:CS κ ν}{L:Bool->List Nat}{x:Option Nat}(h:Ref s L x){r q:Bool}(hq:q≠r): ∀b∈L q,b∉L r:=by
 cases r<;>cases q
 · exact absurd rfl hq
 · exact h.pZ
 · exact fun b h1 h2=>h.pZ b h2 h1
 · exact absurd rfl hq
theorem Ref.take{s:CS κ ν}{L:Bool->List Nat}(h:Ref s L none){r:Bool}{A B:List Nat}{e:Nat}(hL:L r=A++e::B):Ref (s.aZ r e) (fq L r (A++B)) (some e):=by
 have hm:=Sm.aZ s r e
 have hr:=h.row r
 have hn:=h.nd r
 rw [hL]at hr hn
 have hn2:=List.nodup_append.1 hn
 have Hu:e∉A:=fun q=>hn2.2.2 e q e (by simp) rfl
 have Hv:=(List.nodup_cons.1 hn2.2.1).1
 have zn:e∈L r:=by rw [hL];simp
 have sub: ∀q b,b∈fq L r (A++B) q->b∈L q/\b≠e:=fun q b hb=>by
   by_cases hq:q=r
   · subst hq
     rw [cV]at hb
     rw [hL]
     rcases List.mem_append.1 hb with k| k
     · exact⟨by simp [k],fun e1=>Hu (e1▸k)⟩
     · exact⟨by simp [k],fun e1=>Hv (e1▸k)⟩
   · rw [eO _ _ hq]at hb
     exact⟨hb,fun e1=>h.FE hq b hb (e1▸zn)⟩
 have Hy: ∀b,((∃q,b∈fq L r (A++B) q)\/some e=some b)↔(∃q,b∈L q):=fun b=>by
   constructor
   · rintro(⟨q,hq⟩| k)
     · exact⟨q,(sub q b hq).1⟩
     · cases k;exact⟨r,zn⟩
   · rintro⟨q,hq⟩
     by_cases k:b=e
     · exact Or.inr (by rw [k])
     · refine Or.inl ⟨q,?_⟩
       by_cases Ia:q=r
       · subst Ia
         rw [cV]
         rw [hL]at hq
         simp at hq⊢
         rcases hq with a| a| a
         · exact Or.inl a
         · exact absurd a k
         · exact Or.inr a
       · rw [eO _ _ Ia];exact hq
 refine⟨fun q=>?_,fun q=>?_,fun b h1 h2=>h.pZ b (sub _ _ h1).1 (sub _ _ h2).1,?_,fun q b hb=>by rw [hm.bs];exact h.dom q b (sub q b hb).1,fun b hb=>?_,fun q b hb=>by rw [hm.held];exact h.flag q b (sub q b hb).1,fun b hb=>?_,fun k b hb=>?_⟩
 · by_cases hq:q=r
   · subst hq;rw [cV];exact hr.aZ hn
   · rw [eO _ _ hq]
     refine hr.Ae (h.row q) hq fun y hy=>?_
     have:=h.FE hq y hy
     rw [hL]at this
     simp at this
     exact⟨this.1,this.2.2⟩
 · by_cases hq:q=r
   · subst hq;rw [cV];exact List.nodup_append.2 ⟨hn2.1,(List.nodup_cons.1 hn2.2.1).2,fun a ha b hb=>hn2.2.2 a ha b (by simp [hb])⟩
   · rw [eO _ _ hq];exact h.nd q
 · intro b hb q hq;cases hb;exact(sub q _ hq).2 rfl
 · cases hb;rw [hm.bs];exact h.dom r _ zn
 · rw [hm.look,hm.key];exact h.keys b (Or.inl ((Hy b).1 hb))
 · rw [hm.look]at hb
   obtain⟨a,c⟩:=h.only k b hb
   rw [hm.key]
   exact⟨(Hy b).2 (a.resolve_right (by simp)),c⟩
theorem Ref.put{s:CS κ ν}{L:Bool->List Nat}{e:Nat}(h:Ref s L (some e)){r:Bool}{A B:List Nat}(hL:L r=A++B)(hf:(s.E e).held=!r):Ref (s.link r A.getLast? e B.head?) (fq L r (A++e::B)) none:=by
 have hm:=Sm.link s r A.getLast? e B.head?
 have hr:=h.row r
 have hn:=h.nd r
 have zn:=h.xo e rfl
 have Ib:=zn r
 rw [hL]at hr hn Ib
 have sub: ∀q b,b∈fq L r (A++e::B) q->b∈L q\/(b=e/\q=r):=fun q b hb=>by
   by_cases hq:q=r
   · subst hq
     rw [cV]at hb
     rw [hL]
     simp at hb⊢
     rcases hb with k| k| k
     · exact Or.inl (Or.inl k)
     · exact Or.inr k
     · exact Or.inl (Or.inr k)
   · rw [eO _ _ hq]at hb
     exact Or.inl hb
 have Hy: ∀b,(∃q,b∈fq L r (A++e::B) q)↔((∃q,b∈L q)\/some e=some b):=fun b=>by
   constructor
   · rintro⟨q,hq⟩
     rcases sub q b hq with k| ⟨k,_⟩
     · exact Or.inl ⟨q,k⟩
     · exact Or.inr (by rw [k])
   · rintro(⟨q,hq⟩| k)
     · refine⟨q,?_⟩
       by_cases Ia:q=r
       · subst Ia
         rw [cV]
         rw [hL]at hq
         simp at hq⊢
         rcases hq with a| a
         · exact Or.inl a
         · exact Or.inr (Or.inr a)
       · rw [eO _ _ Ia];exact hq
     · cases k;exact⟨r,by rw [cV];simp⟩
 have hn2:=List.nodup_append.1 hn
 simp at Ib
 refine⟨fun q=>?_,fun q=>?_,fun b h1 h2=>?_,fun b hb=>(by cases hb),fun q b hb=>?_,fun b hb=>(by cases hb),fun q b hb=>?_,fun b hb=>?_,fun k b hb=>?_⟩
 · by_cases hq:q=r
   · subst hq;rw [cV];exact hr.link hn (by simp;exact Ib)
   · rw [eO _ _ hq]
     refine(h.row q).FB hq (fun y hy=>?_) (zn q)
     have:=h.FE hq y hy
     rw [hL]at this
     simpa using this
 · by_cases hq:q=r
   · subst hq;rw [cV]
     refine List.nodup_append.2 ⟨hn2.1,List.nodup_cons.2 ⟨Ib.2,hn2.2.1⟩,fun a ha b hb=>?_⟩
     rcases List.mem_cons.1 hb with k| k
     · subst k;exact fun e1=>Ib.1 (e1▸ha)
     · exact hn2.2.2 a ha b k
   · rw [eO _ _ hq];exact h.nd q
 · rcases sub _ _ h1 with k| ⟨k,k1⟩<;>rcases sub _ _ h2 with j| ⟨j,j1⟩
   · exact h.pZ b k j
   · subst j;exact zn true k
   · subst k;exact zn false j
   · rw [<-k1]at j1;cases j1
 · rw [hm.bs]
   rcases sub q b hb with k| ⟨k,_⟩
   · exact h.dom q b k
   · subst k;exact h.xdom b rfl
 · rw [hm.held]
   rcases sub q b hb with k| ⟨k,k1⟩
   · exact h.flag q b k
   · subst k k1;exact hf
 · rw [hm.look,hm.key];exact h.keys b ((Hy b).1 (hb.resolve_right (by simp)))
 · rw [hm.look]at hb
   obtain⟨a,c⟩:=h.only k b hb
   rw [hm.key]
   exact⟨Or.inl ((Hy b).2 a),c⟩
theorem Ref.same{s t:CS κ ν}{L:Bool->List Nat}{x:Option Nat}(h:Ref s L x)(h1: ∀r,t.row r=s.row r)(h2:t.bs=s.bs)(h3:t.look=s.look)(hp: ∀b,(t.E b).eM=(s.E b).eM/\(t.E b).eV=(s.E b).eV)(hk: ∀b,(t.E b).key=(s.E b).key)(hf: ∀r,∀b∈L r,(t.E b).held=(s.E b).held):Ref t L x:=
 ⟨fun r=>(h.row r).other (h1 r) fun b _=>hp b,h.nd,h.pZ,h.xo,fun r b hb=>by rw [h2];exact h.dom r b hb,fun e he=>by rw [h2];exact h.xdom e he,fun r b hb=>by rw [hf r b hb];exact h.flag r b hb,fun b hb=>by rw [h3,hk];exact h.keys b hb,fun k b hb=>by rw [hk];rw [h3]at hb;exact h.only k b hb⟩
theorem Ref.bU{s:CS κ ν}{L:Bool->List Nat}{e:Nat}(h:Ref s L (some e))(f:Bool):Ref (s.bU e f) L (some e):=
 h.same (fun r=>uX s _ _ r) rfl rfl (fun i=>by rw [CS.bU,gV];split<;>simp_all) (fun i=>by rw [CS.bU,gV];split<;>simp_all) (fun r i hi=>by rw [CS.bU,gV,if_neg (fun q:i=e=>h.xo e rfl r (q▸hi))])
def CS.drop [DecidableEq κ](s:CS κ ν)(k:κ):CS κ ν:={s with look:=fun q=>if q=k then none else s.look q}
theorem Ref.drop [DecidableEq κ]{s:CS κ ν}{L:Bool->List Nat}{e:Nat}(h:Ref s L (some e)):Ref (s.drop (s.E e).key) L none:=by
 have he:=h.keys e (Or.inr rfl)
 refine⟨fun r=>(h.row r).other (by cases r<;>rfl) fun b _=>⟨rfl,rfl⟩,h.nd,h.pZ,fun e he=>(by cases he),h.dom,fun e he=>(by cases he),h.flag,fun b hb=>?_,fun k b hb=>?_⟩
 · have hb:=hb.resolve_right (by simp)
   have k1:=h.keys b (Or.inl hb)
   show(if _=_ then none else s.look _)=_
   have hd:(s.E b).key≠(s.E e).key:=fun q=>by
     rw [<-q,k1]at he
     cases he
     obtain⟨r,hr⟩:=hb
     exact h.xo _ rfl r hr
   rw [show((s.drop (s.E e).key).E b).key=(s.E b).key from rfl,if_neg hd]
   exact k1
 · change (if k=_ then none else s.look k)=some b at hb
   split at hb
   · cases hb
   · obtain⟨a,c⟩:=h.only k b hb
     refine⟨Or.inl (a.resolve_right fun q=>?_),c⟩
     cases q
     rename_i hne
     exact hne c.symm
def CS.enter [DecidableEq κ](s:CS κ ν)(b:Nat)(k:κ)(v:ν):CS κ ν:={s with E:=fun i=>if i=b then⟨k,v,false,none,none⟩else s.E i,bs:=b::s.bs,look:=fun q=>if q=k then some b else s.look q}
theorem Ref.enter [DecidableEq κ]{s:CS κ ν}{L:Bool->List Nat}(h:Ref s L none){b:Nat}(hb:b∉s.bs){k:κ}(hk:s.look k=none)(v:ν):Ref (s.enter b k v) L (some b):=by
 have hE: ∀i,i≠b->(s.enter b k v).E i=s.E i:=fun i hi=>if_neg hi
 have SH:(s.enter b k v).E b=⟨k,v,false,none,none⟩:=if_pos rfl
 have hne: ∀r i,i∈L r->i≠b:=fun r i hi q=>hb (q▸h.dom r i hi)
 refine⟨fun r=>(h.row r).other (by cases r<;>rfl) fun i hi=>by rw [hE i (hne r i hi)];exact⟨rfl,rfl⟩,h.nd,h.pZ,fun e he r hr=>?_,fun r i hi=>List.mem_cons_of_mem _ (h.dom r i hi),fun e he=>(by cases he;exact List.mem_cons_self),fun r i hi=>by rw [hE i (hne r i hi)];exact h.flag r i hi,fun i hi=>?_,fun q i hi=>?_⟩
 · cases he;exact hne r _ hr rfl
 · rcases hi with⟨r,hr⟩| q
   · rw [hE i (hne r i hr)]
     have:=h.keys i (Or.inl ⟨r,hr⟩)
     show(if _=k then some b else s.look _)=_
     rw [if_neg (fun q=>by rw [q,hk]at this;cases this)]
     exact this
   · cases q
     rw [SH]
     exact if_pos rfl
 · change (if q=k then some b else s.look q)=some i at hi
   split at hi
   · cases hi;rw [SH];rename_i e;exact⟨Or.inr rfl,e.symm⟩
   · obtain⟨a,c⟩:=h.only q i hi
     obtain⟨r,hr⟩:=a.resolve_right (by simp)
     rw [hE i (hne r i hr)]
     exact⟨Or.inl ⟨r,hr⟩,c⟩
end
end Go.Proofs.YtpdakmhnnkaafaaGreat.Ca
namespace Go.Proofs.YtpdakmhnnkaafaaGreat.Ca
set_option maxRecDepth 100000
set_option maxHeartbeats 40000000
set_option linter.unusedVariables false
set_option linter.unusedSimpArgs false
structure AS (κ ν:Type) where
 room:Nat
 clean:List (κ×ν)
 held:List (κ×ν)
 bc:Nat
 misses:Nat
 gone:Nat
section
variable {κ ν:Type} [DecidableEq κ]
def dr(l:List (κ×ν))(k:κ):Option ν:=(l.find? fun x=>decide (x.1=k)).map (·.2)
def lM(l:List (κ×ν))(k:κ):List (κ×ν):=l.filter fun x=>!decide (x.1=k)
def FH(l:List (κ×ν))(k:κ)(v:ν):List (κ×ν):=l.map fun x=>if x.1=k then(k,v)else x
def AS.trim(a:AS κ ν):AS κ ν:={a with clean:=a.clean.take a.room,gone:=a.gone+(a.clean.length-a.room)}
def AS.val(a:AS κ ν)(k:κ):Option ν:=(dr a.held k).or (dr a.clean k)
def AS.get(a:AS κ ν)(k:κ):AS κ ν:=match dr a.held k with
 | some _=>{a with bc:=a.bc+1}
 | none=>match dr a.clean k with
   | some v=>{a with clean:=(k,v)::lM a.clean k,bc:=a.bc+1}
   | none=>{a with misses:=a.misses+1}
def AS.put(a:AS κ ν)(k:κ)(v:ν):AS κ ν:=match dr a.held k with
 | some _=>{a with held:=FH a.held k v}
 | none=>AS.trim {a with clean:=(k,v)::lM a.clean k}
def AS.hold(a:AS κ ν)(k:κ)(v:ν):AS κ ν:=match dr a.held k with
 | some _=>{a with held:=FH a.held k v}
 | none=>{a with clean:=lM a.clean k,held:=a.held++ [(k,v)]}
def AS.settle(a:AS κ ν):AS κ ν:=AS.trim {a with clean:=a.held.reverse++a.clean,held:= []}
def AS.release(a:AS κ ν)(n:Nat):AS κ ν:={a with held:=a.held.take n}
def AS.tot(a:AS κ ν):Nat:=a.bc+a.misses+a.gone+a.clean.length+a.held.length
omit [DecidableEq κ] in
omit [DecidableEq κ] in
theorem AS.Bu(a:AS κ ν):a.trim.tot=a.tot:=by
 unfold AS.trim AS.tot
 simp [List.length_take];omega
def fI(s:CS κ ν)(l:List Nat):List (κ×ν):=l.map fun b=>((s.E b).key,(s.E b).val)
omit [DecidableEq κ] in
theorem kX(s:CS κ ν)(A B:List Nat):fI s (A++B)=fI s A++fI s B:=by simp [fI]
omit [DecidableEq κ] in
theorem nC(s:CS κ ν)(e:Nat)(B:List Nat):fI s (e::B)=((s.E e).key,(s.E e).val)::fI s B:=rfl
omit [DecidableEq κ] in
theorem jN(s:CS κ ν)(l:List Nat):(fI s l).length=l.length:=by simp [fI]
omit [DecidableEq κ] in
theorem mg{s t:CS κ ν}(h:Sm s t)(l:List Nat):fI t l=fI s l:=by
 unfold fI;congr 1;funext b;rw [h.key,h.val]
omit [DecidableEq κ] in
theorem mh{s t:CS κ ν}{l:List Nat}(h: ∀b∈l,(t.E b).key=(s.E b).key/\(t.E b).val=(s.E b).val):fI t l=fI s l:=by
 unfold fI;refine List.map_congr_left fun b hb=>?_;rw [(h b hb).1,(h b hb).2]
theorem ke(l:List (κ×ν))(k:κ):dr l k=none↔ ∀x∈l,x.1≠k:=by
 simp [dr]
theorem Bv{l:List (κ×ν)}{k:κ}(h: ∀x∈l,x.1≠k):lM l k=l:=by
 unfold lM;rw [List.filter_eq_self];intro x hx;simp [h x hx]
omit [DecidableEq κ] in
theorem Ref.inj{s:CS κ ν}{L:Bool->List Nat}{x:Option Nat}(h:Ref s L x){a b:Nat}{r q:Bool}(ha:a∈L r)(hb:b∈L q)(e:(s.E a).key=(s.E b).key):a=b:=by
 have h1:=h.keys a (Or.inl ⟨r,ha⟩)
 have h2:=h.keys b (Or.inl ⟨q,hb⟩)
 rw [e,h2]at h1
 exact(Option.some.inj h1).symm
theorem Ref.El{s:CS κ ν}{L:Bool->List Nat}{x:Option Nat}(h:Ref s L x){k:κ}(hk:s.look k=none)(r:Bool):dr (fI s (L r)) k=none:=by
 rw [ke]
 intro y hy e
 obtain⟨b,hb,rfl⟩:=List.mem_map.1 hy
 have:=h.keys b (Or.inl ⟨r,hb⟩)
 rw [show(s.E b).key=k from e,hk]at this
 cases this
theorem Ref.FI{s:CS κ ν}{L:Bool->List Nat}{x:Option Nat}(h:Ref s L x){e:Nat}{q r:Bool}(he:e∈L q)(hq:q≠r):dr (fI s (L r)) (s.E e).key=none:=by
 rw [ke]
 intro y hy k
 obtain⟨b,hb,rfl⟩:=List.mem_map.1 hy
 have:=h.inj hb he k
 subst this
 exact h.FE hq _ he hb
theorem Ref.Bw{s:CS κ ν}{L:Bool->List Nat}{x:Option Nat}(h:Ref s L x){e:Nat}{r:Bool}(he:e∈L r):dr (fI s (L r)) (s.E e).key=some (s.E e).val:=by
 unfold dr
 cases hf:(fI s (L r)).find? fun x=>decide (x.1=(s.E e).key)with
 | none=>
   rw [List.find?_eq_none]at hf
   exact absurd (decide_eq_true rfl) (hf ((s.E e).key,(s.E e).val) (List.mem_map.2 ⟨e,he,rfl⟩))
 | some y=>
   have h1:=List.find?_some hf
   have h2:=List.mem_of_find?_eq_some hf
   obtain⟨b,hb,rfl⟩:=List.mem_map.1 h2
   have:b=e:=h.inj hb he (of_decide_eq_true h1)
   subst this
   rfl
theorem Ref.Ic{s:CS κ ν}{L:Bool->List Nat}{x:Option Nat}(h:Ref s L x){e:Nat}{r:Bool}{A B:List Nat}(hL:L r=A++e::B):lM (fI s (A++e::B)) (s.E e).key=fI s (A++B):=by
 have hn:=h.nd r
 rw [hL]at hn
 have hn2:=List.nodup_append.1 hn
 have hne: ∀b∈A++B,(s.E b).key≠(s.E e).key:=fun b hb q=>by
   have hb':b∈L r:=by rw [hL];simp at hb⊢;rcases hb with k| k<;>simp [k]
   have:b=e:=h.inj hb' (by rw [hL];simp:e∈L r) q
   subst this
   rcases List.mem_append.1 hb with k| k
   · exact hn2.2.2 b k b (by simp) rfl
   · exact(List.nodup_cons.1 hn2.2.1).1 k
 rw [kX,nC]
 unfold lM
 rw [List.filter_append,List.filter_cons]
 simp only [decide_true,Bool.not_true,Bool.false_eq_true,if_false]
 rw [<-List.filter_append,<-kX,List.filter_eq_self]
 intro y hy
 obtain⟨b,hb,rfl⟩:=List.mem_map.1 hy
 simp [hne b hb]
omit [DecidableEq κ] in
structure dS (s:CS κ ν) (L:Bool->List Nat) (x:Option Nat) (a:AS κ ν):Prop where
 ref:Ref s L x
 room:s.room=a.room
 clean:fI s (L true)=a.clean
 held:fI s (L false)=a.held
 bc:s.bc=a.bc
 misses:s.misses=a.misses
 gone:s.gone=a.gone
omit [DecidableEq κ] in
theorem Ref.dA{s:CS κ ν}{L:Bool->List Nat}{e:Nat}(h:Ref s L (some e)){r:Bool}(hf:(s.E e).held=!r):Ref (s.dA r e) (fq L r (e::L r)) none:=by
 have:=h.put (A:= []) (B:=L r) rfl hf
 rw [<-(h.row r).first]at this
 exact this
omit [DecidableEq κ] in
theorem Ref.iu{s:CS κ ν}{L:Bool->List Nat}{e:Nat}(h:Ref s L (some e)){r:Bool}(hf:(s.E e).held=!r):Ref (s.iu r e) (fq L r (L r++ [e])) none:=by
 have:=h.put (A:=L r) (B:= []) (by simp) hf
 rw [<-(h.row r).last]at this
 exact this
end
end Go.Proofs.YtpdakmhnnkaafaaGreat.Ca
namespace Go.Proofs.YtpdakmhnnkaafaaGreat.Ca
set_option maxRecDepth 100000
set_option maxHeartbeats 40000000
set_option linter.unusedVariables false
set_option linter.unusedSimpArgs false
open Go.RowKit
attribute [local go_sem ↓] Go.wp_at_zero Go.wp_at_succ
theorem lS.put{M:DataW Unit}{look:Int->Option Nat}(h:lS M look){k:Int}(hk:jU k)(b:Nat):lS (M.put (lL k) (.lit (.int .i64 (b:Nat)))) (fun q=>if q=k then some b else look q):=by
 refine⟨h.isMap.put _ _,fun q hq hl=>?_,fun q c hq hl=>?_⟩
 · by_cases e:q=k
   · simp [e]at hl
   · rw [if_neg e]at hl
     rw [Maps.has_put_other (fun x=>e (jE x)),Maps.atKey_put_other (fun x=>e (jE x))];exact h.no q hq hl
 · by_cases e:q=k
   · subst e
     simp at hl
     subst hl
     exact⟨Maps.has_put_same h.isMap (qa hk).1 _,Maps.atKey_put_same h.isMap (qa hk).1 _ _⟩
   · rw [if_neg e]at hl
     rw [Maps.has_put_other (fun x=>e (jE x)),Maps.atKey_put_other (fun x=>e (jE x))];exact h.yes q c hq hl
theorem lS.del{M:DataW Unit}{look:Int->Option Nat}(h:lS M look){k:Int}:lS (M.del (lL k)) (fun q=>if q=k then none else look q):=by
 refine⟨h.isMap.del _,fun q hq hl=>?_,fun q c hq hl=>?_⟩
 · by_cases e:q=k
   · subst e;exact⟨Maps.has_del_same,Maps.atKey_del_same _⟩
   · rw [if_neg e]at hl
     rw [Maps.has_del_other (fun x=>e (jE x)),Maps.atKey_del_other (fun x=>e (jE x))];exact h.no q hq hl
 · by_cases e:q=k
   · simp [e]at hl
   · rw [if_neg e]at hl
     rw [Maps.has_del_other (fun x=>e (jE x)),Maps.atKey_del_other (fun x=>e (jE x))];exact h.yes q c hq hl
theorem CK.turn{w w':World}{base p m n n':Nat}{s:bw}{M:DataW Unit}{look:Int->Option Nat}(h:CK w base p m n s)(hm:w'.ownsMap Tryz.prog 3 PR m n' M)(hM:lS M look)(hg:w.grownBy w' (some m)):CK w' base p m n' {s with look:=look}/\Fr (dD p m s) w w':=by
 have hne: ∀i,i<w.heap.size->i≠m->w'.heap[i]? =w.heap[i]? :=fun i hi he=>hg.block i hi (fun q=>he (Option.some.inj q))
 refine⟨⟨(hne p (hlt h.cell) h.pm).trans h.cell,fun b hb=>(hne b (hlt (h.ents b hb)) (h.eb hb).2).trans (h.ents b hb),⟨M,hm,hM⟩,h.kwf,h.bp,h.bm,h.bb⟩,⟨hg.os,hg.tape,hg.output,hg.size,fun i hi hn=>hne i hi (fun q=>hn (q▸Mq p m s))⟩⟩
theorem CK.alloc{w:World}{base p m n:Nat}{s:bw}(h:CK w base p m n s)(o:Obj):CK (w.alloc o) base p m n s:=by
 have hne: ∀i x,w.heap[i]? =some x->(w.alloc o).heap[i]? =some x:=fun i x hx=>hold hx
 obtain⟨M,hm,hM⟩:=h.mp
 exact⟨hne _ _ h.cell,fun b hb=>hne _ _ (h.ents b hb),⟨M,hm.alloc o,hM⟩,h.kwf,h.bp,h.bm,h.bb⟩
theorem CK.fresh{w:World}{base p m n:Nat}{s:bw}(h:CK w base p m n s)(hb:base<=w.heap.size){k:Int}{v:Ct}(hk:jU k):CK (w.alloc (.cells (jh ⟨k,v,false,none,none⟩) 130)) base p m n {s with E:=fun i=>if i=w.heap.size then⟨k,v,false,none,none⟩else s.E i,bs:=w.heap.size::s.bs}:=by
 have h1:=h.alloc (.cells (jh ⟨k,v,false,none,none⟩) 130)
 have rZ: ∀b∈s.bs,b≠w.heap.size:=fun b q e=>by have:=hlt (h.ents b q);omega
 refine⟨h1.cell,fun b q=>?_,h1.mp,fun b q=>?_,h.bp,h.bm,fun b q=>?_⟩
 · rcases List.mem_cons.1 q with e| e
   · subst e;simp only [if_pos rfl];exact aF w _
   · simp only [if_neg (rZ b e)];exact h1.ents b e
 · rcases List.mem_cons.1 q with e| e
   · subst e;simp only [if_pos rfl];exact hk
   · simp only [if_neg (rZ b e)];exact h.kwf b e
 · rcases List.mem_cons.1 q with e| e
   · subst e;exact hb
   · exact h.bb b e
theorem _root_.Go.Proofs.YtpdakmhnnkaafaaGreat.Fr.alloc'(F:List Nat)(w:World)(o:Obj):Fr F w (w.alloc o):=Fr.ba ((Below.refl _ w).alloc (Nat.le_refl _) _)
theorem CK.entered{w w2:World}{base p m n:Nat}{s:bw}(h:CK w base p m n s)(hb:base<=w.heap.size){k:Int}{v:Ct}(hk:jU k){M:DataW Unit}(hM:lS M s.look)(hm:w2.ownsMap Tryz.prog 3 PR m (n+1) (M.put (lL k) (.lit (.int .i64 (w.heap.size:Nat)))))(hg:(w.alloc (.cells (jh ⟨k,v,false,none,none⟩) 130)).grownBy w2 (some m)):
   CK w2 base p m (n+1) (s.enter w.heap.size k v)/\Fr (dD p m s) w w2:=by
 obtain⟨a,b⟩:=(h.fresh hb (v:=v) hk).turn hm (hM.put hk w.heap.size) hg
 refine⟨a,(Fr.alloc' _ w _).trans b (fun i hi=>?_)⟩
 simp only [dD,List.mem_cons]at hi⊢
 rcases hi with e| e| e| e
 · exact Or.inl (Or.inl e)
 · exact Or.inl (Or.inr (Or.inl e))
 · exact Or.inr (by omega)
 · exact Or.inl (Or.inr (Or.inr e))
theorem mi:(Tryz.prog.info? 93).map (·.size)=some 2:=by kernel_rfl
theorem NK(v:Ct):(av v).length=2:=rfl
theorem yj(v:Ct): ∀x∈av v,x.oneCell'=true:=fun x hx=>by
 simp only [av,List.mem_cons,List.not_mem_nil,or_false]at hx
 rcases hx with rfl| rfl<;>rfl
theorem zo(w:World)(base p m n:Nat)(s:bw)(h:CK w base p m n s)(hb:base<=w.heap.size)(k:Int)(v:Ct)(hk:jU k)(hn:n<4000000000000000000):
   Calls Tryz.prog 66 #[.pointer (some ⟨p,0,none⟩),fV k,bV v] w fun x w'=>x= .returned (.pointer (some ⟨w.heap.size+1,0,none⟩))/\CK w' base p m (n+1) (s.enter (w.heap.size+1) k v)/\Fr (dD p m s) w w':=by
 have hz:=h.alloc (.cells (av v).toArray 93)
 have hF0:Fr (dD p m s) w (w.alloc (.cells (av v).toArray 93)):=Fr.alloc' _ w _
 have r0:=aF w (.cells (av v).toArray 93)
 have hs:(w.alloc (.cells (av v).toArray 93)).heap.size=w.heap.size+1:=by simp
 obtain⟨M,hm,hM⟩:=hz.mp
 have HE0:=fun w2 a b=>hz.entered (w2:=w2) (by rw [hs];omega) (v:=v) hk hM a b
 have c1:=(hz.alloc (.cells (jh ⟨k,v,false,none,none⟩) 130)).c1
 have hm1:=hm.alloc (.cells (jh ⟨k,v,false,none,none⟩) 130)
 rw [hs]at HE0
 have HE:=aa (fun w2 a b=>show CK w2 base p m (n+1) (s.enter (w.heap.size+1) k v)/\Fr (dD p m s) w w2 from⟨(HE0 w2 a b).1,hF0.trans' (HE0 w2 a b).2⟩)
 have LS:=aa (show(Tryz.prog.info? 93).map (·.size)=some (av v).toArray.size by rw [mi,List.size_toArray,NK])
 have HK:=aa (qa hk).2
 have HN:=aa (show n<maxLen by unfold maxLen;omega)
 clear h hz hm hM hb hk hn HE0 hF0
 obtain⟨vk,vs,vn,vc⟩:=v
 simp only [fV,bV,av,jh,cO]at*
 go_enter Tryz.func66,Tryz.ntmps66
 go_wp2_with (first
   | refine aG (by rfl) 93 _ (by rfl) w.heap.size (by rfl) 93 _ _ _ r0 Tryz.underlying93 rfl LS.out ?_
   | (at_mapUpdate;refine wpList_mapUpdate_own _ rfl _ _ _ 121 rfl 3 122 wQ Tryz.underlying121 PR m n M rfl hm1 HN.out _ _ (lL k) rfl rfl HK.out (.lit (.int .i64 ((w.heap.size+1:Nat):Int))) [] rfl ?_;intro w2 ho2 hg2;have HR:=aa (HE.out w2 ho2 hg2);clear ho2 hg2 HE))
 go_ret
 exact⟨rfl,HR.out.1,HR.out.2⟩
theorem step_drop{w:World}{ops:Array Oper}{o:Oper}{a:Act}{K:Act->World->Prop}{Q:Exit->Act->World->Prop}{E:Prop}(hgd:o.guard=none)(mo x:Operand)(hop:o.op=Op.call {callee:=Callee.builtin Builtin.delete,args:= #[mo,x],argTypes:= #[121,3]})
   (base p m n:Nat) (s:bw) (h:CK w base p m n s) (hm:a.eval mo= .map (some m)) (k:Int) (hx:a.eval x=fV k) (hk:jU k)
   (hK: ∀w',CK w' base p m n (s.drop k)->Fr (dD p m s) w w'->K (a.put o.dst (.tuple #[])) w'):
   if Region.wanted o (yielded ops a.tmps)=true then Oper.wp Tryz.prog o a w K Q else E:=by
 have hw:Region.wanted o (yielded ops a.tmps)=true:=by simp [Region.wanted,hgd]
 rw [if_pos hw]
 obtain⟨M,hown,hM⟩:=h.mp
 obtain⟨w',hrun,r1,r2⟩:=hown.drop wQ Tryz.underlying121 (qa hk).2 o.type
 unfold Oper.wp
 simp [execOp,hop,resolve,invoke,builtin,hm,hx,hrun,Result.andThen]
 obtain⟨a1,a2⟩:=h.turn r1 (hM.del (k:=k)) r2.grown
 exact hK w' a1 a2
theorem CK.ek{w:World}{base p m n:Nat}{s:bw}(h:CK w base p m n s){b:Nat}(hb:b∈s.bs):w.cell? ⟨b,0,none⟩=some (fV (s.E b).key):=by rw [cell_of_row _ _ _ _ _ _ (h.ents b hb)];rfl
theorem CK.NL{w:World}{base p m n:Nat}{s:bw}(h:CK w base p m n s)(v:Int):CK (w.setCell ⟨p,10,none⟩ (.int .i64 v)) base p m n {s with gone:=v}:=h.yg _ _ (by simp [ji]) rfl rfl rfl
theorem CK.NM{w:World}{base p m n:Nat}{s:bw}(h:CK w base p m n s)(v:Int):CK (w.setCell ⟨p,8,none⟩ (.int .i64 v)) base p m n {s with bc:=v}:=h.yg _ _ (by simp [ji]) rfl rfl rfl
theorem CK.Ie{w:World}{base p m n:Nat}{s:bw}(h:CK w base p m n s)(v:Int):CK (w.setCell ⟨p,9,none⟩ (.int .i64 v)) base p m n {s with misses:=v}:=h.yg _ _ (by simp [ji]) rfl rfl rfl
theorem Ref.wR{s:bw}{L:Bool->List Nat}(h:Ref s L none){r:Bool}{A B:List Nat}{e:Nat}(hL:L r=A++e::B)(hl:(L r).length<4000000000000000000):
   e∈s.bs/\kW s (s.E e).eM/\kW s (s.E e).eV/\(s.E e).eM≠some e/\(s.E e).eV≠some e/\(0<(s.row r).count/\(s.row r).count<4000000000000000000):=by
 have hr:=h.row r
 have hn:=h.nd r
 have hd:=h.dom r
 rw [hL]at hr hn hd hl
 have hn2:=List.nodup_append.1 hn
 obtain⟨a,b⟩:=hr.at
 rw [a,b]
 refine⟨hd e (by simp),fun x hx=>hd x (by simp [List.mem_of_getLast? hx]),fun x hx=>hd x (by simp [List.mem_of_head? hx]),fun q=>hn2.2.2 e (List.mem_of_getLast? q) e (by simp) rfl,fun q=>(List.nodup_cons.1 hn2.2.1).1 (List.mem_of_head? q),?_⟩
 rw [hr.count]
 simp at hl⊢
 omega
theorem Ref.Ai{s:bw}{L:Bool->List Nat}{x:Option Nat}(h:Ref s L x)(r:Bool)(hl:(L r).length<4000000000000000000):kW s (s.row r).first/\kW s (s.row r).last/\(0<=(s.row r).count/\(s.row r).count<4000000000000000000):=by
 have hr:=h.row r
 rw [hr.first,hr.last,hr.count]
 exact⟨fun x hx=>h.dom r x (List.mem_of_head? hx),fun x hx=>h.dom r x (List.mem_of_getLast? hx),by omega,by omega⟩
theorem KH(w:World)(base p m n:Nat)(s:bw)(h:CK w base p m n s)(e:Nat)(he:e∈s.bs)(hh:(s.E e).held=true):
   Calls Tryz.prog 69 #[.pointer (some ⟨p,0,none⟩), .pointer (some ⟨e,0,none⟩)] w fun x w'=>x= .returned (.tuple #[])/\w=w':=by
 have c1:=h.eh he
 rw [hh]at c1
 clear h hh he
 go_enter Tryz.func69,Tryz.ntmps69
 go_wp2
 refine bodyPost_ret (results_none rfl _ _ _) rfl ?_
 exact⟨rfl,rfl⟩
theorem Ig(w:World)(base p m n:Nat)(s:bw)(h:CK w base p m n s)(L:Bool->List Nat)(hR:Ref s L none)(A B:List Nat)(e:Nat)(hL:L true=A++e::B)(hl:(L true).length<4000000000000000000):
   Calls Tryz.prog 69 #[.pointer (some ⟨p,0,none⟩), .pointer (some ⟨e,0,none⟩)] w fun x w'=>x= .returned (.tuple #[])/\ ∃t,LN base p m n s w t w'/\Sm s t/\Ref t (fq L true (e::(A++B))) none:=by
 obtain⟨k1,k2,k3,k4,k5,k6⟩:=hR.wR hL hl
 have c1:=h.eh k1
 rw [hR.flag true e (by rw [hL];simp)]at c1
 have H1:=aa (lT w base p m n s h true e k1 k2 k3 k4 k5 k6 2 rfl)
 have hR1:=hR.take hL
 have hl1:(fq L true (A++B) true).length<4000000000000000000:=by rw [cV];rw [hL]at hl;simp at hl⊢;omega
 obtain⟨j1,j2,j3⟩:=hR1.Ai true hl1
 have H2:=aa (fun w1 (q:LN base p m n s w (s.aZ true e) w1)=>mC w1 base p m n _ q.1 true e (by rw [q.2.2];exact k1) j1 j3 2 rfl)
 have hR2:=hR1.dA (r:=true) (by rw [(Sm.aZ s true e).held];exact hR.flag true e (by rw [hL];simp))
 rw [cV,show fq (fq L true (A++B)) true (e::(A++B))=fq L true (e::(A++B)) by funext q;unfold fq;split<;>rfl]at hR2
 have HR:=aa hR2
 have hS:=(Sm.aZ s true e).trans (Sm.link (s.aZ true e) true none e ((s.aZ true e).row true).first)
 clear h hR k1 k2 k3 k4 k5 k6 j1 j2 j3 hR1 hR2 hl hl1 hL
 simp only [Bool.not_true]at c1
 go_enter Tryz.func69,Tryz.ntmps69
 go_wp2_with (first
   | (go_at_call 67;refine H1.out.mono ?_;rintro x w1 ⟨rfl,hl1⟩;clear H1)
   | (go_at_call 70;refine(H2.out w1 hl1).mono ?_;rintro x w2 ⟨rfl,hl2⟩;have HL:=aa (hl1.trans hl2);clear H2 hl1 hl2))
 go_end0
 exact⟨rfl,_,HL.out,hS,HR.out⟩
end Go.Proofs.YtpdakmhnnkaafaaGreat.Ca
namespace Go.Proofs.YtpdakmhnnkaafaaGreat.Ca
set_option maxRecDepth 100000
set_option maxHeartbeats 40000000
set_option linter.unusedVariables false
set_option linter.unusedSimpArgs false
open Go.RowKit
attribute [local go_sem ↓] Go.wp_at_zero Go.wp_at_succ
def CS.gone1(s:bw):bw:={s with gone:=s.gone+1}
theorem dS.goes{s:bw}{L:Bool->List Nat}{a:AS Int Ct}(h:dS s L none a){A:List Nat}{e:Nat}(hL:L true=A++ [e]):
   dS ((s.aZ true e).drop (s.E e).key).gone1 (fq L true A) none {a with clean:=a.clean.take A.length,gone:=a.gone+1}:=by
 have hm:=Sm.aZ s true e
 have hR:=h.ref.take (B:= []) hL
 have hR2:=hR.drop
 rw [hm.key,List.append_nil]at hR2
 have hR3:Ref ((s.aZ true e).drop (s.E e).key).gone1 (fq L true A) none:=hR2.same (fun r=>by cases r<;>rfl) rfl rfl (fun b=>⟨rfl,rfl⟩) (fun b=>rfl) (fun r b _=>rfl)
 have hk: ∀l,fI ((s.aZ true e).drop (s.E e).key).gone1 l=fI s l:=fun l=>mh fun b _=>⟨hm.key b,hm.val b⟩
 refine⟨hR3,hm.room.trans h.room,?_,?_,hm.bc.trans h.bc,hm.misses.trans h.misses,?_⟩
 · rw [cV,hk,<-h.clean,hL,kX,List.take_append_of_le_length (by rw [jN];exact Nat.le_refl _),List.take_of_length_le (by rw [jN];exact Nat.le_refl _)]
 · rw [eO _ _ (by decide),hk];exact h.held
 · show(s.aZ true e).gone+1=_;rw [hm.gone,h.gone];push_cast;rfl
theorem dS.sS{s:bw}{L:Bool->List Nat}{x:Option Nat}{a:AS Int Ct}(h:dS s L x a):(L true).length=a.clean.length:=by rw [<-h.clean,jN]
theorem dS.pG{s:bw}{L:Bool->List Nat}{x:Option Nat}{a:AS Int Ct}(h:dS s L x a):(L false).length=a.held.length:=by rw [<-h.held,jN]
theorem KI{base p m n:Nat}{s s' s3:bw}{w wr w3 w4:World}{e:Nat}(h1:LN base p m n s w s' wr)(h2:LN base p m n s' wr.drew s3 w3)(he:e∈s3.bs)(h4:CK w4 base p m n (s3.drop (s3.E e).key))(hF:Fr (dD p m s3) w3.drew w4):
   (w4.cell? ⟨p,1,none⟩=some (.map (some m))/\w4.cell? ⟨e,0,none⟩=some (fV (s3.E e).key))/\LN base p m n s w (s3.drop (s3.E e).key) w4:=by
 have h3:=h1.trans h2.Hw
 refine⟨⟨h4.c1,h4.ek (b:=e) he⟩,h4,h3.2.1.trans' ?_,h3.2.2⟩
 rw [show dD p m s3=dD p m s by simp [dD,h3.2.2]]at hF
 exact⟨hF.os,hF.tape,hF.output,hF.size,hF.block⟩
theorem KJ{base p m n:Nat}{s s3:bw}{w w4:World}(h:LN base p m n s w s3 w4):w4.cell? ⟨p,10,none⟩=some (.int .i64 s3.gone)/\w4.frozen? ⟨p,10,none⟩=false/\LN base p m n s w s3.gone1 (w4.setCell ⟨p,10,none⟩ (.int .i64 (s3.gone+1))):=
 ⟨h.1.c10,h.1.fz 10,h.1.NL _,h.2.1.setCell (kV p m s) _ _,h.2.2⟩
def LA(base p m n:Nat)(s:bw)(w:World)(a:AS Int Ct)(w':World):Prop:= ∃t L,LN base p m n s w t w'/\dS t L none a
theorem Bx(w:World)(base p m n:Nat)(s:bw)(h:CK w base p m n s)(L:Bool->List Nat)(a:AS Int Ct)(hA:dS s L none a)(hl:a.tot<4000000000000000000):
   Calls Tryz.prog 71 #[.pointer (some ⟨p,0,none⟩)] w fun x w'=>x= .returned (.tuple #[])/\LA base p m n s w a.trim w':=by
 obtain⟨N,hN⟩: ∃N,N=a.clean.length:=⟨_,rfl⟩
 have HA:=aa hA
 have HC:=aa h
 have HL:=aa hl
 have mL:=aa hN
 clear h hA hl hN
 go_enter Tryz.func71,Tryz.ntmps71
 go_wp2
 go_loopw [2] (fun _ wr=> ∃j s' L',j<=N/\(j=N\/a.room<=j)/\LN base p m n s w s' wr/\dS s' L' none {a with clean:=a.clean.take j,gone:=a.gone+(N-j)}) (fun _ wr=>(intOf ((wr.cell? ⟨p,4,none⟩).getD undef)).toNat)
 case atStart=>
   refine⟨N,s,L,Nat.le_refl _,Or.inl rfl,⟨HC.out,Fr.refl _ _,rfl⟩,?_⟩
   have:=HA.out
   rw [mL.out,List.take_of_length_le (Nat.le_refl _),Nat.sub_self]
   exact this
 case round=>
   obtain⟨j,s',L',hj,PL,hLN,hAb⟩:=hrel
   have c0:=hLN.1.c0
   have c4:=hLN.1.c4
   have yl:s'.cl.count=j:=by
     have:=(hAb.ref.row true).count
     rw [hAb.sS]at this
     simp only [List.length_take]at this
     show(s'.row true).count=_
     rw [this,Nat.min_eq_left (by have:=mL.out;omega)]
   rw [yl]at c4
   rw [hAb.room]at c0
   simp only at c0
   have mP:=aa hAb
   have jk:=aa hLN
   clear hAb hLN
   by_cases hlt:a.room<j
   · have i1:(a.room:Int)<(j:Int):=by omega
     have hne:L' true≠ []:=fun q=>by have:=mP.out.sS;rw [q]at this;simp at this;have:=mL.out;omega
     obtain⟨A,e,hL⟩: ∃A e,L' true=A++ [e]:=(List.eq_nil_or_concat (L' true)).resolve_left hne|>.imp fun A h=>h.imp fun e h=>by rw [h];simp
     have hlen:A.length+1=j:=by
       have:=mP.out.sS
       rw [hL]at this
       simp at this
       have:=mL.out
       omega
     have ht:AS.tot {a with clean:=a.clean.take j,gone:=a.gone+(N-j)}=a.tot:=by
       unfold AS.tot
       simp only [List.length_take]
       have:=mL.out
       omega
     have Ih:(L' true).length<4000000000000000000:=by
       rw [mP.out.sS]
       have h1:=HL.out
       rw [<-ht]at h1
       unfold AS.tot at h1
       simp only at h1⊢
       omega
     have kz:0<=s'.gone/\s'.gone<4000000000000000000:=by
       rw [mP.out.gone]
       have h1:=HL.out
       rw [<-ht]at h1
       unfold AS.tot at h1
       simp only at h1⊢
       omega
     obtain⟨k1,k2,k3,k4,k5,k6⟩:=mP.out.ref.wR (B:= []) hL Ih
     have c3:=jk.out.1.c3
     rw [show s'.cl.last=some e by have:=(mP.out.ref.row true).last;rw [hL,List.getLast?_append]at this;exact this]at c3
     have H1:=aa (lT wr.drew base p m n s' jk.out.1.drew true e k1 k2 k3 k4 k5 k6 2 rfl)
     have HG:=aa (mP.out.goes hL)
     have Ii:=aa (jk.out.1.kwf e k1)
     have hsm:=Sm.aZ s' true e
     have Ij:=hsm.key e
     have Em:=hsm.gone
     have HE:=aa (show e∈(s'.aZ true e).bs by rw [hsm.bs];exact k1)
     have g1:=kz.1
     have g2:=kz.2
     clear k1 k2 k3 k4 k5 k6 Ih kz ht hne hL
     generalize hs3:s'.aZ true e=s3 at*
     clear hs3 hsm
     rw [<-Ij]at Ii HG
     generalize hk:(s3.E e).key=k at*
     have uE:=aa (fun w3 (q:LN base p m n s' wr.drew s3 w3) w4 a b=>KI (e:=e) jk.out q HE.out (w4:=w4) a b)
     have Bz:=aa (fun w3 (q:LN base p m n s' wr.drew s3 w3)=>(⟨q.1.c1,q.1.ek HE.out⟩:w3.cell? ⟨p,1,none⟩=some (.map (some m))/\w3.cell? ⟨e,0,none⟩=some (fV (s3.E e).key)))
     rw [hk]at uE Bz
     have PM:=aa (fun w4 (q:LN base p m n s w (s3.drop k) w4)=>KJ q)
     rw [show(s3.drop k).gone=s3.gone from rfl,Em]at PM
     clear Em hk Ij
     generalize s'.gone=G at*
     simp only [cO]at c3
     have HC4:=aa c4
     go_wp2
     go_region_held3 (fun w'=>w'.cell? ⟨p,0,none⟩=some (.int .i64 a.room)/\w'.cell? ⟨p,4,none⟩=some (.int .i64 j)) (go_keep) (fail)
     go_wp2_with (first
       | (go_at_call 67;refine H1.out.mono ?_;rintro x w3 ⟨rfl,hl3⟩;clear H1;have HS:=aa (Bz.out w3 hl3);have HD:=aa (show CK w3 base p m n s3/\jU k/\_ from⟨hl3.1,Ii.out,uE.out w3 hl3⟩);clear Bz uE hl3 c0 c3 c4))
     refine wp_region_noPanic ?_
     refine wp_region_held_drew (S:=fun w'=>w'.cell? ⟨p,1,none⟩=some (.map (some m))/\w'.cell? ⟨e,0,none⟩=some (fV k)) (by kernel_rfl) HS.out (fun hHeld=>?_)
     refine ai 0 (.pointer (some ⟨p,0,none⟩)) rfl hHeld ?_
     try go_frame
     refine ai 4 (.pointer (some ⟨e,0,none⟩)) rfl hHeld ?_
     try go_frame
     refine ai 1 (.pointer (some ⟨p,0,none⟩)) rfl hHeld ?_
     try go_frame
     refine ai 5 (.pointer (some ⟨e,0,none⟩)) rfl hHeld ?_
     try go_frame
     refine ai 2 (.pointer (some ⟨p,1,none⟩)) rfl hHeld ?_
     try go_frame
     refine ai 6 (.pointer (some ⟨e,0,none⟩)) rfl hHeld ?_
     try go_frame
     refine aV 3 (.map (some m)) rfl (yA (by intro w hS;have hc:=hS.1;go_simp)) hHeld ?_
     try go_frame
     refine aV 7 (fV k) rfl (yA (by intro w hS;have hc:=hS.2;go_simp)) hHeld ?_
     try go_frame
     refine bR 8 rfl (fun K hK=>?_)
     refine step_drop (by rfl) (.tmp 26) (.tmp 30) (by rfl) base p m n s3 HD.out.1.drew (by rfl) k (by rfl) HD.out.2.1 ?_
     intro w4 hC4 hF4
     have HP4:=aa (HD.out.2.2 w4 hC4 hF4)
     clear hC4 hF4
     refine hK.out _ _ (HP4.out.1) ?_
     clear hK K hHeld
     intro hHeld
     have hLN4:=HP4.out.2
     clear HP4 HD HS
     obtain⟨c10,f10,hL5⟩:=PM.out w4 hLN4
     clear PM hLN4
     try go_frame
     refine dY ?_
     go_wp2
     go_roundw
     case rel=>exact⟨j-1,_,_,by omega,Or.inr (by omega),hL5,by
       have:=HG.out
       rw [show A.length=j-1 by omega]at this
       simp only [List.take_take]at this
       rw [show min (j-1) j=j-1 by omega,show a.gone+(N-j)+1=a.gone+(N-(j-1)) by omega]at this
       exact this⟩
     case measure=>
       have e1:=hL5.1.c4
       have e2:=(HG.out.ref.row true).count
       rw [cV]at e2
       rw [show((s3.drop k).gone1).cl.count=(A.length:Int)from e2]at e1
       rw [e1,HC4.out]
       simp [intOf]
       omega
   · have i1: ¬(a.room:Int)<(j:Int):=by omega
     go_wp2
     go_region_held3 (fun w'=>w'.cell? ⟨p,0,none⟩=some (.int .i64 a.room)/\w'.cell? ⟨p,4,none⟩=some (.int .i64 j)) (go_keep) (fail)
     go_wp2
     go_end0
     refine⟨rfl,s',L',⟨jk.out.1.drew,⟨jk.out.2.1.os,jk.out.2.1.tape,jk.out.2.1.output,jk.out.2.1.size,jk.out.2.1.block⟩,jk.out.2.2⟩,?_⟩
     have:=mP.out
     have hN:=mL.out
     have:a.trim={a with clean:=a.clean.take j,gone:=a.gone+(N-j)}:=by
       unfold AS.trim
       rcases PL with q| q
       · rw [List.take_of_length_le (by omega),List.take_of_length_le (by omega),show a.clean.length-a.room=N-j by omega]
       · rw [show j=a.room by omega,hN]
     rw [this]
     assumption
end Go.Proofs.YtpdakmhnnkaafaaGreat.Ca

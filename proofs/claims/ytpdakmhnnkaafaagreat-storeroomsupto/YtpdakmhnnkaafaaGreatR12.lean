import Derived.Test.YtpdakmhnnkaafaaGreatR11
import Derived.Maps.RangeWalk
namespace Go.Proofs.YtpdakmhnnkaafaaGreat.Ca
set_option maxRecDepth 100000
set_option maxHeartbeats 40000000
set_option linter.unusedVariables false
set_option linter.unusedSimpArgs false
open Go.RowKit
attribute [local go_sem ↓] Go.wp_at_zero Go.wp_at_succ
theorem uF(w:World):(zeroValue 122).run Tryz.prog w= .ok (.pointer none) w:=by kernel_rfl
theorem CK.nh{w:World}{base p m n:Nat}{s:bw}(h:CK w base p m n s){k:Int}(hk:jU k)(hl:s.look k=none):(Instr.lookup 121 (.map (some m)) (fV k) true).run Tryz.prog w= .ok (.tuple #[.pointer none, .bool false]) w:=by
 obtain⟨M,hm,hM⟩:=h.mp
 obtain⟨v,ps,hrun,hv⟩:=hm.look_ok wQ Tryz.underlying121 (uF w) Ek (qa hk).2
 obtain⟨e1,e2⟩:=hM.no k hk hl
 rw [e2]at hv
 rw [hrun,e1,NI hv]
theorem CK.KM{w:World}{base p m n:Nat}{s:bw}(h:CK w base p m n s){k:Int}(hk:jU k){b:Nat}(hl:s.look k=some b):(Instr.lookup 121 (.map (some m)) (fV k) true).run Tryz.prog w= .ok (.tuple #[.pointer (some ⟨b,0,none⟩), .bool true]) w:=by
 obtain⟨M,hm,hM⟩:=h.mp
 obtain⟨v,ps,hrun,hv⟩:=hm.look_ok wQ Tryz.underlying121 (uF w) Ek (qa hk).2
 obtain⟨e1,e2⟩:=hM.yes k b hk hl
 rw [e2]at hv
 rw [hrun,e1,PJ hv]
theorem dS.use{s t:bw}{L:Bool->List Nat}{a:AS Int Ct}(h:dS s L none a){A B:List Nat}{e:Nat}(hL:L true=A++e::B)(hm:Sm s t)(hR:Ref t (fq L true (e::(A++B))) none):
   dS t (fq L true (e::(A++B))) none {a with clean:=((s.E e).key,(s.E e).val)::lM a.clean (s.E e).key}:=by
 refine⟨hR,hm.room.trans h.room,?_,?_,hm.bc.trans h.bc,hm.misses.trans h.misses,hm.gone.trans h.gone⟩
 · rw [cV,mg hm,nC,<-h.clean,hL,h.ref.Ic hL]
 · rw [eO _ _ (by decide),mg hm];exact h.held
theorem dS.NN{s:bw}{L:Bool->List Nat}{a:AS Int Ct}(h:dS s L none a){A B:List Nat}{e:Nat}(hL:L true=A++e::B)(v:Ct):(((s.E e).key,v)::lM a.clean (s.E e).key).length=a.clean.length:=by
 rw [<-h.clean,hL,h.ref.Ic hL];simp [fI];omega
theorem dS.qJ{s:bw}{L:Bool->List Nat}{a:AS Int Ct}(h:dS s L none a){k:Int}(hk:s.look k=none):dr a.held k=none:=by rw [<-h.held];exact h.ref.El hk false
theorem dS.qK{s:bw}{L:Bool->List Nat}{a:AS Int Ct}(h:dS s L none a){k:Int}(hk:s.look k=none):dr a.clean k=none:=by rw [<-h.clean];exact h.ref.El hk true
theorem dS.FJ{s:bw}{L:Bool->List Nat}{a:AS Int Ct}(h:dS s L none a){e:Nat}(he:e∈L false):dr a.held (s.E e).key=some (s.E e).val:=by rw [<-h.held];exact h.ref.Bw he
theorem dS.wS{s:bw}{L:Bool->List Nat}{a:AS Int Ct}(h:dS s L none a){e:Nat}(he:e∈L true):dr a.clean (s.E e).key=some (s.E e).val/\dr a.held (s.E e).key=none:=by rw [<-h.clean,<-h.held];exact⟨h.ref.Bw he,h.ref.FI he (by decide)⟩
theorem dS.hit{s:bw}{L:Bool->List Nat}{a:AS Int Ct}(h:dS s L none a):dS {s with bc:=s.bc+1} L none {a with bc:=a.bc+1}:=
 ⟨h.ref.same (fun r=>by cases r<;>rfl) rfl rfl (fun b=>⟨rfl,rfl⟩) (fun b=>rfl) (fun r b _=>rfl),h.room,h.clean,h.held,by show s.bc+1=_;rw [h.bc];push_cast;rfl,h.misses,h.gone⟩
theorem dS.Ut{s:bw}{L:Bool->List Nat}{a:AS Int Ct}(h:dS s L none a):dS {s with misses:=s.misses+1} L none {a with misses:=a.misses+1}:=
 ⟨h.ref.same (fun r=>by cases r<;>rfl) rfl rfl (fun b=>⟨rfl,rfl⟩) (fun b=>rfl) (fun r b _=>rfl),h.room,h.clean,h.held,h.bc,by show s.misses+1=_;rw [h.misses];push_cast;rfl,h.gone⟩
def CA(w:World)(base:Nat)(F:List Nat)(p:Nat)(N:Nat)(a:AS Int Ct):Prop:=
 ∃m n s L,F=dD p m s/\CK w base p m n s/\dS s L none a/\n<=N/\a.tot<=N/\a.clean.length<=a.room
theorem CK.lt{w:World}{base p m n:Nat}{s:bw}(h:CK w base p m n s): ∀k∈dD p m s,base<=k/\k<w.heap.size:=by
 intro k hk
 obtain⟨M,hm,_⟩:=h.mp
 simp only [dD,List.mem_cons]at hk
 rcases hk with rfl| rfl| e
 · exact⟨h.bp,hlt h.cell⟩
 · exact⟨h.bm,hm.lt⟩
 · exact⟨h.bb k e,hlt (h.ents k e)⟩
theorem CA.lt{w:World}{base:Nat}{F:List Nat}{p N:Nat}{a:AS Int Ct}(h:CA w base F p N a): ∀k∈F,base<=k/\k<w.heap.size:=by
 obtain⟨m,n,s,L,rfl,h,_⟩:=h;exact h.lt
theorem CK.of_heap{w w1:World}{base p m n:Nat}{s:bw}(h:CK w base p m n s)(hk: ∀k∈dD p m s,w1.heap[k]? =w.heap[k]?):CK w1 base p m n s:=by
 obtain⟨M,hm,hM⟩:=h.mp
 exact⟨(hk p (kV p m s)).trans h.cell,fun b hb=>(hk b (tW hb)).trans (h.ents b hb),⟨M,jZ hm (hk m (Mq p m s)),hM⟩,h.kwf,h.bp,h.bm,h.bb⟩
theorem CA.other{w w1:World}{base:Nat}{F G:List Nat}{p N:Nat}{a:AS Int Ct}(h:CA w base G p N a)(hf:Fr F w w1)(ha:eQ F G):CA w1 base G p N a:=by
 have hl:=h.lt
 obtain⟨m,n,s,L,rfl,h,r⟩:=h
 exact⟨m,n,s,L,rfl,h.of_heap fun i hi=>hf.block i (hl i hi).2 (fun e=>ha i e hi),r⟩
theorem CA.below{w w1:World}{base:Nat}{F:List Nat}{p N:Nat}{a:AS Int Ct}(h:CA w base F p N a)(hb:Below w.heap.size w w1):CA w1 base F p N a:=by
 have hl:=h.lt
 obtain⟨m,n,s,L,rfl,h,r⟩:=h
 exact⟨m,n,s,L,rfl,h.of_heap fun i hi=>hb.block i (hl i hi).2,r⟩
theorem CA.mono{w:World}{base:Nat}{F:List Nat}{p N N':Nat}{a:AS Int Ct}(h:CA w base F p N a)(hn:N<=N'):CA w base F p N' a:=by
 obtain⟨m,n,s,L,rfl,h,r1,r2,r3,r4⟩:=h
 exact⟨m,n,s,L,rfl,h,r1,by omega,by omega,r4⟩
def Nx(base:Nat)(F:List Nat)(p N:Nat)(w:World)(a:AS Int Ct)(w':World):Prop:= ∃F',CA w' base F' p (N+1) a/\Fr F w w'/\Gr w F F'
theorem LN.nx{base p m n N:Nat}{s t:bw}{w w':World}{L:Bool->List Nat}{a:AS Int Ct}(h:LN base p m n s w t w')(hA:dS t L none a)(h1:n<=N+1)(h2:a.tot<=N+1)(h3:a.clean.length<=a.room):Nx base (dD p m s) p N w a w':=
 ⟨dD p m t,⟨m,n,t,L,rfl,h.1,hA,h1,h2,h3⟩,h.2.1,by rw [show dD p m t=dD p m s by simp [dD,h.2.2]];exact Gr.refl _ _⟩
theorem NP(a:AS Int Ct)(k:Int):(a.get k).tot<=a.tot+1:=by
 unfold AS.get
 split
 · unfold AS.tot;simp only;omega
 · split
   · rename_i v hv
     have:(lM a.clean k).length<a.clean.length:=by
       unfold lM
       refine List.length_filter_lt_length_iff_exists.2 ?_
       simp only [dr,Option.map_eq_some_iff]at hv
       obtain⟨x,hx,_⟩:=hv
       exact⟨x,List.mem_of_find?_eq_some hx,by have:=List.find?_some hx;simpa using this⟩
     unfold AS.tot;simp only [List.length_cons];omega
   · unfold AS.tot;simp only;omega
theorem FM{l:List Nat}{e:Nat}(h:e∈l): ∃A B,l=A++e::B:=List.append_of_mem h
theorem Ref.En{s:bw}{L:Bool->List Nat}(h:Ref s L none){k:Int}{b:Nat}(hl:s.look k=some b):(b∈L true\/b∈L false)/\(s.E b).key=k:=by
 obtain⟨a,c⟩:=h.only k b hl
 obtain⟨r,hr⟩:=a.resolve_right (by simp)
 exact⟨by cases r;exact Or.inr hr;exact Or.inl hr,c⟩
theorem mD{P:Program}{t:TypeId}{Z:List Value}(hz: ∀(a:Act) (o:Oper) (w:World),o.op= .alloc t->(execOp a.eval o).run P w= .ok (.value (.pointer (some ⟨w.heap.size,0,none⟩))) (w.alloc (.cells Z.toArray t)))
   {ops:Array Oper} {rest:List Oper} {o:Oper} {a:Act} {w:World} {Q:Exit->Act->World->Prop} (hg:o.guard=none) (ho:o.op= .alloc t)
   (h:wpList P ops Q rest (a.put o.dst (.pointer (some ⟨w.heap.size,0,none⟩))) (w.alloc (.cells Z.toArray t))):wpList P ops Q (o::rest) a w:=by
 refine wpList_plain hg fun K hK=>?_
 unfold Oper.wp
 rw [hz a o w ho]
 exact hK _ _ h
theorem bX{P:Program}{fn:Func}{p q:Tmp}{ty:TypeId}(h:fn.results= #[.cell p ty, .tmp q])(tmps:Array Value)(w:World)(g:Nat)(t:TypeId)(cs:Array Value)(fr:Nat×Nat)(d:TypeDesc)
   (hp:tmps.getD p undef= .pointer (some ⟨g,0,none⟩)) (hg:w.heap[g]? =some (.cells cs t fr))
   (hu:P.underlying ty=some d) (hd:(match d with| .struct _| .array _ _=>true| _=>false)=true) (hi:(P.info? ty).map (·.size)=some cs.size):
   (results fn tmps).run P w= .ok (.tuple #[.agg cs,tmps.getD q undef]) w:=by
 have si:tmps[p]?.getD undef= .pointer (some ⟨g,0,none⟩):=by simpa using hp
 simp [results,h,si,asAddr,run_loadVar_row w g t ty cs fr d hg hu hd hi]
theorem ym(a:Act)(o:Oper)(w:World)(ho:o.op= .alloc 93):(execOp a.eval o).run Tryz.prog w= .ok (.value (.pointer (some ⟨w.heap.size,0,none⟩))) (w.alloc (.cells (av ct0).toArray 93)):=by
 unfold execOp
 rw [ho]
 kernel_rfl
theorem CA.cS{w:World}{base:Nat}{F:List Nat}{p N:Nat}{a:AS Int Ct}(h:CA w base F p N a){b:Nat}{cs:Array Value}{t:TypeId}{fr:Nat×Nat}(hb:w.heap[b]? =some (.cells cs t fr))(h1:t≠126)(h2:t≠130):b∉F:=by
 obtain⟨m,n,s,L,rfl,h,_⟩:=h
 intro e
 simp only [dD,List.mem_cons]at e
 rcases e with e| e| e
 · exact cL hb h.cell h1 e
 · obtain⟨M,⟨es,clock,hm,_⟩,_⟩:=h.mp
   rw [<-e,hb]at hm;cases hm
 · exact cL hb (h.ents b e) h2 rfl
theorem Nx.res{base:Nat}{F:List Nat}{p N:Nat}{w w2 w3:World}{o:Obj}{a:AS Int Ct}(h:Nx base F p N (w.alloc o) a w2){cs:Array Value}{fr:Nat×Nat}(hr:w2.heap[w.heap.size]? =some (.cells cs 93 fr))(hf:Fr [w.heap.size] w2 w3):Nx base F p N w a w3:=by
 obtain⟨F',h1,h2,h3⟩:=h
 have hn:w.heap.size∉F':=h1.cS hr (by decide) (by decide)
 have hs:w.heap.size<=(w.alloc o).heap.size:=by simp
 refine⟨F',h1.other hf (fun i hi e=>hn (List.mem_singleton.1 hi▸e)),?_,fun i hi=>(h3 i hi).imp id (fun q=>Nat.le_trans hs q)⟩
 refine⟨hf.os.trans h2.os,hf.tape.trans h2.tape,hf.output.trans h2.output,Nat.le_trans hs (Nat.le_trans h2.size hf.size),fun i hi Ik=>?_⟩
 have e1:=hf.block i (Nat.lt_of_lt_of_le hi (Nat.le_trans hs h2.size)) (fun q=>by have:=List.mem_singleton.1 q;omega)
 have e2:=h2.block i (by omega) Ik
 rw [e1,e2]
 have:(w.alloc o).heap[i]? =w.heap[i]? :=by
   show(w.heap.push _)[i]? =_
   rw [Array.getElem?_push,if_neg (by omega)]
 exact this
theorem sU(w:World)(g:Nat)(cs:Array Value):Fr [g] w (w.setRow g cs):=⟨rfl,rfl,rfl,by rw [setRow_size];exact Nat.le_refl _,fun k hk hn=>setRow_other w g k cs (fun e=>hn (List.mem_singleton.2 e))⟩
theorem Il{w:World}{g:Nat}{cs:Array Value}{t:TypeId}{fr:Nat×Nat}(h:w.heap[g]? =some (.cells cs t fr))(o:Obj):(w.alloc o).heap[g]? =some (.cells cs t fr):=hold h
theorem yn(w:World)(base:Nat)(F:List Nat)(p N:Nat)(a:AS Int Ct)(h:CA w base F p N a)(k:Int)(hk:jU k)(hN:N<4000000000000000000):
   Calls Tryz.prog 40 #[.pointer (some ⟨p,0,none⟩),fV k] w fun x w'=>x= .returned (.tuple #[bV ((a.val k).getD ct0), .bool (a.val k).isSome])/\Nx base F p N w (a.get k) w':=by
 have hz:=h.below ((Below.refl w.heap.size w).alloc (Nat.le_refl _) (.cells (av ct0).toArray 93))
 have r0:=aF w (.cells (av ct0).toArray 93)
 have hl0:=hlt r0
 have PN:=aa (fun(w2 w3:World) (q:Nx base F p N (w.alloc (.cells (av ct0).toArray 93)) (a.get k) w2) (f:Fr [w.heap.size] w2 w3) (cs:Array Value) (r:w2.heap[w.heap.size]? =some (.cells cs 93 (0,0)))=>Nx.res q r f)
 have rD:w.heap.size∉F:=fun e=>by have:=(h.lt _ e).2;omega
 have AC:=aa ym
 have L0:=aa (show(av ct0).length=2 from rfl)
 have OZ:=aa (yj ct0)
 have S0:=aa (show(Tryz.prog.info? 93).map (·.size)=some (av ct0).toArray.size by rw [mi];rfl)
 clear h
 obtain⟨m,n,s,L,rfl,hC,hA,h1,h2,h3⟩:=hz
 have hgt:=NP a k
 have c1:=hC.c1
 have gp:w.heap.size≠p:=fun e=>rD (e▸kV p m s)
 cases hl:s.look k with
 | none=>
   have hlk:=hC.nh hk hl
   have c9:=hC.c9
   have f9:=hC.fz 9
   have e1:a.get k={a with misses:=a.misses+1}:=by unfold AS.get;rw [hA.qJ hl];simp only;rw [hA.qK hl]
   have e2:a.val k=none:=by unfold AS.val;rw [hA.qJ hl,hA.qK hl];rfl
   have hE:=LN.nx (N:=N) ⟨hC.Ie (s.misses+1),(Fr.refl _ _).setCell (kV p m s) _ _,rfl⟩ hA.Ut (by omega) (by rw [<-e1];omega) h3
   rw [<-e1]at hE
   have q1:((w.alloc (.cells (av ct0).toArray 93)).setCell ⟨p,9,none⟩ (.int .i64 (s.misses+1))).heap[w.heap.size]? =some (.cells (av ct0).toArray 93 (0,0)):=(heap_setCell_other _ _ _ _ gp).trans r0
   have q2:=Il q1 (.cells (av ct0).toArray 93)
   have q3:=aF ((w.alloc (.cells (av ct0).toArray 93)).setCell ⟨p,9,none⟩ (.int .i64 (s.misses+1))) (.cells (av ct0).toArray 93)
   have HE:=aa (PN.out _ (((((w.alloc (.cells (av ct0).toArray 93)).setCell ⟨p,9,none⟩ (.int .i64 (s.misses+1))).alloc (.cells (av ct0).toArray 93))).setRow w.heap.size (av ct0).toArray) hE ((Fr.alloc' _ _ _).trans' (sU _ _ _)) _ q1)
   rw [e2]
   have g1:0<=s.misses:=by rw [hA.misses];omega
   have g2:s.misses<4000000000000000000:=by rw [hA.misses];unfold AS.tot at h2;omega
   clear hC hA hE hl hgt e1 e2 rD
   simp only [fV]at*
   generalize s.misses=G at*
   rw [show(Option.getD (none:Option Ct) ct0)=ct0 from rfl]
   unfold bV
   generalize av ct0=Z at*
   go_enter Tryz.func40,Tryz.ntmps40
   go_wp2_with (first
     | refine mD AC.out rfl rfl ?_
     | refine aG (by rfl) 93 _ (by rfl) _ (by rfl) 93 _ _ _ q3 Tryz.underlying93 rfl S0.out ?_
     | refine wpList_store_row rfl 93 _ _ (by rfl) w.heap.size Z.toArray (by rfl) (by rfl) 93 _ q2 S0.out (by rfl) (all_oneCell_toArray OZ.out) ?_)
   exact bodyPost_ret (v:= .tuple #[.agg Z.toArray, .bool false]) (bX Tryz.results40 _ _ w.heap.size 93 _ _ _ rfl (setRow_heap _ _ _ _ _ _ q2) Tryz.underlying93 rfl S0.out) rfl ⟨rfl,HE.out⟩
 | some e=>
   obtain⟨hin,hkey⟩:=hA.ref.En hl
   have Im:e∈s.bs:=hin.elim (hA.ref.dom true e) (hA.ref.dom false e)
   have hlk:=hC.KM hk hl
   have c8:=hC.c8
   have f8:=hC.fz 8
   have hC1:=hC.NM (s.bc+1)
   have hA1:=hA.hit
   have g1:0<=s.bc:=by rw [hA.bc];omega
   have g2:s.bc<4000000000000000000:=by rw [hA.bc];unfold AS.tot at h2;omega
   have hF1:Fr (dD p m s) (w.alloc (.cells (av ct0).toArray 93)) ((w.alloc (.cells (av ct0).toArray 93)).setCell ⟨p,8,none⟩ (.int .i64 (s.bc+1))):=(Fr.refl _ _).setCell (kV p m s) _ _
   have q1:((w.alloc (.cells (av ct0).toArray 93)).setCell ⟨p,8,none⟩ (.int .i64 (s.bc+1))).heap[w.heap.size]? =some (.cells (av ct0).toArray 93 (0,0)):=(heap_setCell_other _ _ _ _ gp).trans r0
   rcases hin with hin| hin
   · obtain⟨A,B,hL⟩:=FM hin
     have H1:=aa (Ig _ base p m n _ hC1 L hA1.ref A B e hL (by rw [hA1.sS];unfold AS.tot at h2;simp only;omega))
     have e1:a.get k={a with clean:=(k,(s.E e).val)::lM a.clean k,bc:=a.bc+1}:=by
       unfold AS.get
       rw [<-hkey,(hA.wS hin).2];simp only;rw [(hA.wS hin).1]
     have e2:a.val k=some (s.E e).val:=by unfold AS.val;rw [<-hkey,(hA.wS hin).2,(hA.wS hin).1];rfl
     have HE:=aa (fun(t:bw) (w':World) (q:LN base p m n {s with bc:=s.bc+1} ((w.alloc (.cells (av ct0).toArray 93)).setCell ⟨p,8,none⟩ (.int .i64 (s.bc+1))) t w') (x1:Sm {s with bc:=s.bc+1} t) (x2:Ref t (fq L true (e::(A++B))) none)=>(by
       have hb:e∈t.bs:=by rw [q.2.2];exact Im
       have hv:=q.1.ev hb
       rw [x1.val]at hv
       have hrow:=(q.2.1.block _ (hlt q1) rD).trans q1
       refine⟨hv,hrow,?_⟩
       have r:=hA1.use hL x1 x2
       have hx:=hA.NN hL (s.E e).val
       rw [show(CS.E {s with bc:=s.bc+1} e)=s.E e from rfl,hkey]at r
       rw [hkey]at hx
       refine PN.out w' (w'.setRow w.heap.size (av (s.E e).val).toArray) ?_ (sU _ _ _) _ hrow
       rw [e1]at hgt⊢
       exact LN.nx (s:=s) ⟨q.1,hF1.trans' q.2.1,q.2.2⟩ r (by omega) (by omega) (by simp only;omega):w'.rangeAt e 1 (av (s.E e).val)/\w'.heap[w.heap.size]? =some (.cells (av ct0).toArray 93 (0,0))/\Nx base (dD p m s) p N w (a.get k) (w'.setRow w.heap.size (av (s.E e).val).toArray)))
     rw [e2]
     have SV:=aa (show(Tryz.prog.info? 93).map (·.size)=some (av (s.E e).val).length by rw [mi];rfl)
     have SW:=aa (show(Tryz.prog.info? 93).map (·.size)=some (av (s.E e).val).toArray.size by rw [mi];rfl)
     have OV:=aa (yj (s.E e).val)
     have LV:=aa (show(av ct0).toArray.size=(av (s.E e).val).toArray.size from rfl)
     clear hC hA hC1 hA1 hl hgt e1 e2 hF1 hL hin hkey Im rD q1
     simp only [fV]at*
     generalize s.bc=G at*
     rw [show(Option.getD (some (s.E e).val) ct0)=(s.E e).val from rfl]
     unfold bV
     generalize av (s.E e).val=VV at*
     generalize av ct0=Z at*
     go_enter Tryz.func40,Tryz.ntmps40
     go_wp2_with (first
       | refine mD AC.out rfl rfl ?_
       | (go_at_call 69;refine H1.out.mono ?_;rintro x w1 ⟨rfl,t,hl1,hs1,hr1⟩;obtain⟨cv,q2,eY⟩:=HE.out t w1 hl1 hs1 hr1;have HX:=aa eY;clear H1 HE hl1 hs1 hr1 eY)
       | refine dQ (by rfl) 93 _ (by rfl) e 1 (by rfl) _ _ cv Tryz.underlying93 rfl SV.out ?_
       | refine wpList_store_row rfl 93 _ _ (by rfl) w.heap.size VV.toArray (by rfl) (by rfl) 93 _ q2 SW.out LV.out (all_oneCell_toArray OV.out) ?_)
     exact bodyPost_ret (v:= .tuple #[.agg VV.toArray, .bool true]) (bX Tryz.results40 _ _ w.heap.size 93 _ _ _ rfl (setRow_heap _ _ _ _ _ _ q2) Tryz.underlying93 rfl SW.out) rfl ⟨rfl,HX.out⟩
   · have H1:=aa (KH _ base p m n _ hC1 e Im (hA.ref.flag false e hin))
     have cv:=hC1.ev (b:=e) Im
     have e1:a.get k={a with bc:=a.bc+1}:=by
       unfold AS.get
       rw [<-hkey,hA.FJ hin]
     have e2:a.val k=some (s.E e).val:=by unfold AS.val;rw [<-hkey,hA.FJ hin];rfl
     have hE:=LN.nx (N:=N) ⟨hC1,hF1,rfl⟩ hA1 (by omega) (by rw [<-e1];omega) h3
     rw [<-e1]at hE
     have HX:=aa (PN.out _ (((w.alloc (.cells (av ct0).toArray 93)).setCell ⟨p,8,none⟩ (.int .i64 (s.bc+1))).setRow w.heap.size (av (s.E e).val).toArray) hE (sU _ _ _) _ q1)
     rw [e2]
     have SV:=aa (show(Tryz.prog.info? 93).map (·.size)=some (av (s.E e).val).length by rw [mi];rfl)
     have SW:=aa (show(Tryz.prog.info? 93).map (·.size)=some (av (s.E e).val).toArray.size by rw [mi];rfl)
     have OV:=aa (yj (s.E e).val)
     have LV:=aa (show(av ct0).toArray.size=(av (s.E e).val).toArray.size from rfl)
     change ((w.alloc _).setCell _ _).rangeAt e 1 (av (s.E e).val)at cv
     clear hC hA hC1 hA1 hl hgt e1 e2 hF1 hin hkey Im rD hE
     simp only [fV]at*
     generalize s.bc=G at*
     rw [show(Option.getD (some (s.E e).val) ct0)=(s.E e).val from rfl]
     unfold bV
     generalize av (s.E e).val=VV at*
     generalize av ct0=Z at*
     go_enter Tryz.func40,Tryz.ntmps40
     go_wp2_with (first
       | refine mD AC.out rfl rfl ?_
       | (go_at_call 69;refine H1.out.mono ?_;rintro x w1 ⟨rfl,rfl⟩)
       | refine dQ (by rfl) 93 _ (by rfl) e 1 (by rfl) _ _ cv Tryz.underlying93 rfl SV.out ?_
       | refine wpList_store_row rfl 93 _ _ (by rfl) w.heap.size VV.toArray (by rfl) (by rfl) 93 _ q1 SW.out LV.out (all_oneCell_toArray OV.out) ?_)
     exact bodyPost_ret (v:= .tuple #[.agg VV.toArray, .bool true]) (bX Tryz.results40 _ _ w.heap.size 93 _ _ _ rfl (setRow_heap _ _ _ _ _ _ q1) Tryz.underlying93 rfl SW.out) rfl ⟨rfl,HX.out⟩
end Go.Proofs.YtpdakmhnnkaafaaGreat.Ca
namespace Go.Proofs.YtpdakmhnnkaafaaGreat.Ca
set_option maxRecDepth 100000
set_option maxHeartbeats 40000000
set_option linter.unusedVariables false
set_option linter.unusedSimpArgs false
open Go.RowKit
attribute [local go_sem ↓] Go.wp_at_zero Go.wp_at_succ
theorem Ref.oL{s:bw}{L:Bool->List Nat}(h:Ref s L none){b:Nat}(hb:b∉s.bs)(k:Int)(v:Ct)(r:Bool):fI (s.enter b k v) (L r)=fI s (L r):=
 mh fun i hi=>by
   have:i≠b:=fun q=>hb (q▸h.dom r i hi)
   rw [show(s.enter b k v).E i=s.E i from if_neg this];exact⟨rfl,rfl⟩
theorem tX(s:bw)(b:Nat)(k:Int)(v:Ct):(s.enter b k v).E b=⟨k,v,false,none,none⟩:=if_pos rfl
theorem dS.Ux{s:bw}{L:Bool->List Nat}{a:AS Int Ct}(h:dS s L none a){b:Nat}(hb:b∉s.bs){k:Int}(hk:s.look k=none)(v:Ct):
   dS ((s.enter b k v).dA true b) (fq L true (b::L true)) none {a with clean:=(k,v)::a.clean}:=by
 have hR:=h.ref.enter hb hk v
 have hR2:=hR.dA (r:=true) (by rw [tX];rfl)
 have hm:=Sm.link (s.enter b k v) true none b ((s.enter b k v).row true).first
 refine⟨hR2,hm.room.trans h.room,?_,?_,hm.bc.trans h.bc,hm.misses.trans h.misses,hm.gone.trans h.gone⟩
 · rw [cV,CS.dA,mg hm,nC,tX,h.ref.oL hb,h.clean]
 · rw [eO _ _ (by decide),CS.dA,mg hm,h.ref.oL hb];exact h.held
theorem dS.Uy{s:bw}{L:Bool->List Nat}{a:AS Int Ct}(h:dS s L none a){b:Nat}(hb:b∉s.bs){k:Int}(hk:s.look k=none)(v:Ct):
   dS (((s.enter b k v).bU b true).iu false b) (fq L false (L false++ [b])) none {a with held:=a.held++ [(k,v)]}:=by
 have hR:=(h.ref.enter hb hk v).bU true
 have hE:((s.enter b k v).bU b true).E b=⟨k,v,true,none,none⟩:=by rw [CS.bU,gV,if_pos rfl,tX]
 have hR2:=hR.iu (r:=false) (by rw [hE];rfl)
 have hm:=Sm.link ((s.enter b k v).bU b true) false (((s.enter b k v).bU b true).row false).last b none
 have Eo: ∀l,fI ((s.enter b k v).bU b true) l=fI (s.enter b k v) l:=fun l=>mh fun i _=>by rw [CS.bU,gV];split<;>simp_all
 refine⟨hR2,hm.room.trans h.room,?_,?_,hm.bc.trans h.bc,hm.misses.trans h.misses,hm.gone.trans h.gone⟩
 · rw [eO _ _ (by decide),CS.iu,mg hm,Eo,h.ref.oL hb];exact h.clean
 · rw [cV,CS.iu,mg hm,kX,Eo,Eo,h.ref.oL hb,h.held]
   simp [fI,tX]
theorem Io(l:List (Int×Ct))(k:Int):(lM l k).length<=l.length:=List.length_filter_le _ _
theorem NQ(a:AS Int Ct)(k:Int)(v:Ct):(a.put k v).tot<=a.tot+1:=by
 unfold AS.put
 split
 · unfold AS.tot FH;simp
 · rw [AS.Bu]
   have:=Io a.clean k
   unfold AS.tot;simp only [List.length_cons];omega
theorem KN(a:AS Int Ct)(k:Int)(v:Ct):(a.hold k v).tot<=a.tot+1:=by
 unfold AS.hold
 split
 · unfold AS.tot FH;simp
 · have:=Io a.clean k
   unfold AS.tot;simp only [List.length_append,List.length_singleton];omega
theorem zq(a:AS Int Ct):a.trim.clean.length<=a.trim.room:=by unfold AS.trim;simp only [List.length_take];omega
theorem CK.base{w:World}{base p m n:Nat}{s:bw}(h:CK w base p m n s):base<=w.heap.size:=by have:=h.bp;have:=hlt h.cell;omega
theorem Uz{w:World}{p m:Nat}{s t:bw}(k:Int)(v:Ct)(h:t.bs=(s.enter w.heap.size k v).bs):Gr w (dD p m s) (dD p m t):=fun i hi=>by
 simp only [dD,h,List.mem_cons]at hi⊢
 rcases hi with e| e| e
 · exact Or.inl (Or.inl e)
 · exact Or.inl (Or.inr (Or.inl e))
 · rcases List.mem_cons.1 e with e| e
   · exact Or.inr (by omega)
   · exact Or.inl (Or.inr (Or.inr e))
theorem Nx.PQ{base:Nat}{F:List Nat}{p N:Nat}{w w':World}{o:Obj}{a:AS Int Ct}(h:Nx base F p N (w.alloc o) a w'):Nx base F p N w a w':=by
 obtain⟨F',h1,h2,h3⟩:=h
 exact⟨F',h1,(Fr.alloc' F w o).trans' h2,fun k hk=>(h3 k hk).imp id (fun q=>by have:(w.alloc o).heap.size<=k:=q;simp at this;omega)⟩
theorem dS.nh{s:bw}{L:Bool->List Nat}{a:AS Int Ct}(h:dS s L none a){k:Int}(hv:a.val k=none):s.look k=none:=by
 cases hl:s.look k with
 | none=>rfl
 | some e=>
   obtain⟨hin,hkey⟩:=h.ref.En hl
   rcases hin with hin| hin
   · have:=h.wS hin
     rw [hkey]at this
     unfold AS.val at hv
     rw [this.1,this.2]at hv
     cases hv
   · have:=h.FJ hin
     rw [hkey]at this
     unfold AS.val at hv
     rw [this]at hv
     cases hv
theorem CK.fresh1{w:World}{base p m n:Nat}{s:bw}(h:CK w base p m n s):w.heap.size+1∉s.bs:=fun q=>by have:=hlt (h.ents _ q);omega
theorem zt{w:World}{p m:Nat}{s t:bw}(k:Int)(v:Ct)(h:t.bs=(s.enter (w.heap.size+1) k v).bs):Gr w (dD p m s) (dD p m t):=fun i hi=>by
 simp only [dD,h,List.mem_cons]at hi⊢
 rcases hi with e| e| e
 · exact Or.inl (Or.inl e)
 · exact Or.inl (Or.inr (Or.inl e))
 · rcases List.mem_cons.1 e with e| e
   · exact Or.inr (by omega)
   · exact Or.inl (Or.inr (Or.inr e))
theorem BB{base p m n N:Nat}{s t:bw}{w w1 w':World}{k:Int}{v:Ct}{L:Bool->List Nat}{a:AS Int Ct}(h1:Fr (dD p m s) w w1)(h:LN base p m (n+1) (s.enter (w.heap.size+1) k v) w1 t w')(hA:dS t L none a)(hn:n<=N)(h2:a.tot<=N+1)(h3:a.clean.length<=a.room):Nx base (dD p m s) p N w a w':=
 ⟨dD p m t,⟨m,n+1,t,L,rfl,h.1,hA,by omega,h2,h3⟩,h1.trans h.2.1 (zt k v rfl),zt k v h.2.2⟩
theorem NR(w:World)(base:Nat)(F:List Nat)(p N:Nat)(a:AS Int Ct)(h:CA w base F p N a)(k:Int)(v:Ct)(hk:jU k)(hN:N<3000000000000000000)(hv:a.val k=none):
   Calls Tryz.prog 41 #[.pointer (some ⟨p,0,none⟩),fV k,bV v] w fun x w'=>x= .returned (.tuple #[])/\Nx base F p N w (a.put k v) w':=by
 have hz:=h.below ((Below.refl w.heap.size w).alloc (Nat.le_refl _) (.cells (av v).toArray 93))
 have r0:=aF w (.cells (av v).toArray 93)
 have rD:w.heap.size∉F:=fun e=>by have:=(h.lt _ e).2;omega
 have hs:(w.alloc (.cells (av v).toArray 93)).heap.size=w.heap.size+1:=by simp
 have Ip:=aa (fun w' (q:Nx base F p N (w.alloc (.cells (av v).toArray 93)) (a.put k v) w')=>q.PQ)
 have LC:=aa (show(Tryz.prog.info? 93).map (·.size)=some (av v).length by rw [mi];rfl)
 clear h
 obtain⟨m,n,s,L,rfl,hC,hA,h1,h2,h3⟩:=hz
 have hl:=hA.nh hv
 have PT:=NQ a k v
 have c1:=hC.c1
 have hlk:=hC.nh hk hl
 have mM:=hC.fresh1
 rw [hs]at mM
 have hA1:=hA.Ux mM hl v
 have e1:a.put k v=AS.trim {a with clean:=(k,v)::a.clean}:=by
   unfold AS.put;rw [hA.qJ hl];simp only
   rw [Bv ((ke _ _).1 (hA.qK hl))]
 have wT:=aa (zo (w.alloc (.cells (av v).toArray 93)).drew base p m n s hC.drew hC.base k v hk (by omega))
 change Hid (Calls _ _ _ _ fun x w'=>x= .returned (.pointer (some ⟨(w.alloc (.cells (av v).toArray 93)).heap.size+1,0,none⟩))/\CK w' base p m (n+1) (s.enter ((w.alloc (.cells (av v).toArray 93)).heap.size+1) k v)/\Fr (dD p m s) (w.alloc (.cells (av v).toArray 93)).drew w')at wT
 have hR:=hA.ref.enter mM hl v
 have hlen:(L true).length<4000000000000000000:=by rw [hA.sS];unfold AS.tot at h2;omega
 obtain⟨j1,j2,j3⟩:=hR.Ai true hlen
 have eY:=fun(w1 w2 w3:World) (q1:Fr (dD p m s) (w.alloc (.cells (av v).toArray 93)).drew w1) (q2:LN base p m (n+1) (s.enter ((w.alloc (.cells (av v).toArray 93)).heap.size+1) k v) w1 ((s.enter ((w.alloc (.cells (av v).toArray 93)).heap.size+1) k v).dA true ((w.alloc (.cells (av v).toArray 93)).heap.size+1)) w2) (q3:LA base p m (n+1) ((s.enter ((w.alloc (.cells (av v).toArray 93)).heap.size+1) k v).dA true ((w.alloc (.cells (av v).toArray 93)).heap.size+1)) w2 (AS.trim {a with clean:=(k,v)::a.clean}) w3)=>(by
   obtain⟨t,L',q4,q5⟩:=q3
   refine Ip.out w3 ?_
   rw [e1]
   exact BB ⟨q1.os,q1.tape,q1.output,q1.size,q1.block⟩ (q2.trans q4) q5 h1 (by rw [<-e1];omega) (zq _):Nx base (dD p m s) p N w (a.put k v) w3)
 rw [hs]at wT eY
 have wU:=aa (fun w1 (q:CK w1 base p m (n+1) (s.enter (w.heap.size+1+1) k v))=>mC w1 base p m (n+1) _ q true (w.heap.size+1+1) List.mem_cons_self j1 j3 2 rfl)
 have kB:=aa (fun w1 w2 (q:LN base p m (n+1) (s.enter (w.heap.size+1+1) k v) w1 ((s.enter (w.heap.size+1+1) k v).dA true (w.heap.size+1+1)) w2)=>Bx w2 base p m (n+1) _ q.1 _ _ hA1 (by unfold AS.tot at h2⊢;simp only [List.length_cons];omega))
 have wV:=aa eY
 have Ep:=aa (fun w1 (x:Fr (dD p m s) (w.alloc (.cells (av v).toArray 93)).drew w1)=>((x.block _ (hlt r0) rD).trans r0:w1.heap[w.heap.size]? =some (.cells (av v).toArray 93 (0,0))))
 have kC:=aa (fun w1 w2 (y:w1.heap[w.heap.size]? =some (.cells (av v).toArray 93 (0,0))) (x:LN base p m (n+1) (s.enter (w.heap.size+1+1) k v) w1 ((s.enter (w.heap.size+1+1) k v).dA true (w.heap.size+1+1)) w2)=>((x.2.1.block _ (hlt y) (fun e=>by
   simp only [dD,List.mem_cons]at e
   simp only [dD,List.mem_cons,not_or]at rD
   rcases e with e| e| e
   · exact rD.1 e
   · exact rD.2.1 e
   · rcases List.mem_cons.1 e with e| e
     · omega
     · exact rD.2.2 e)).trans y:w2.heap[w.heap.size]? =some (.cells (av v).toArray 93 (0,0))))
 clear hC hA hl PT hA1 hR j1 j2 j3 hlen e1 mM hv eY rD
 simp only [fV,bV]at*
 obtain⟨H,hH⟩: ∃H,H=w.heap.size+1+1:=⟨_,rfl⟩
 rw [<-hH]at wT wU kB wV kC
 clear hH hs
 generalize av v=C at*
 go_enter Tryz.func41,Tryz.ntmps41
 go_wp2
 refine wp_region_noPanic ?_
 refine wp_region_held_drew (S:=fun w'=>w'.heap[w.heap.size]? =some (.cells C.toArray 93 (0,0))) (by kernel_rfl) r0 (fun hHeld=>?_)
 refine ai 0 (.pointer (some ⟨p,0,none⟩)) rfl hHeld ?_
 try go_frame
 refine ai 3 (.pointer (some ⟨p,0,none⟩)) rfl hHeld ?_
 try go_frame
 refine ai 4 (.int .i64 k) rfl hHeld ?_
 try go_frame
 refine aV 5 (.agg (C).toArray) rfl (yieldsIf_load_mid (by rfl) 93 _ rfl w.heap.size (0) rfl (C) _ (fun w hS=>yK hS) Tryz.underlying93 rfl LC.out) hHeld ?_
 try go_frame
 refine ai 1 (.pointer (some ⟨p,0,none⟩)) rfl hHeld ?_
 try go_frame
 refine ai 2 (.pointer (some ⟨p,2,none⟩)) rfl hHeld ?_
 try go_frame
 refine bR 6 rfl (fun K hK=>?_)
 go_simp
 go_at_call 66
 refine(wT.out).mono ?_
 rintro e w1 ⟨rfl,hc1,hf1⟩
 have HC1:=aa hc1
 have HF1:=aa hf1
 clear hc1 hf1
 go_wp2_with fail
 refine hK.out _ _ (Ep.out w1 HF1.out) ?_
 clear hK K hHeld
 intro hHeld
 try go_frame
 refine bR 7 rfl (fun K hK=>?_)
 go_simp
 go_at_call 70
 refine(wU.out w1 HC1.out).mono ?_
 rintro e w2 ⟨rfl,hl2⟩
 have HL2:=aa hl2
 clear hl2
 go_wp2_with fail
 refine hK.out _ _ (kC.out w1 w2 hHeld HL2.out) ?_
 clear hK K hHeld
 intro hHeld
 try go_frame
 refine dY ?_
 go_wp2_with (go_at_call 71;refine(kB.out w1 w2 HL2.out).mono ?_;rintro x w3 ⟨rfl,hr⟩)
 go_end0
 exact⟨rfl,wV.out w1 w2 w3 HF1.out HL2.out hr⟩
end Go.Proofs.YtpdakmhnnkaafaaGreat.Ca
namespace Go.Proofs.YtpdakmhnnkaafaaGreat.Ca
set_option maxRecDepth 100000
set_option maxHeartbeats 40000000
set_option linter.unusedVariables false
set_option linter.unusedSimpArgs false
open Go.RowKit
attribute [local go_sem ↓] Go.wp_at_zero Go.wp_at_succ
theorem LN.bU{base p m n:Nat}{s t:bw}{w w1:World}{e:Nat}(h:LN base p m n s w t w1)(he:e∈t.bs)(f:Bool):w1.cell? ⟨e,3,none⟩=some (.bool (t.E e).held)/\w1.frozen? ⟨e,3,none⟩=false/\LN base p m n s w (t.bU e f) (w1.setCell ⟨e,3,none⟩ (.bool f)):=
 ⟨h.1.eh he,h.1.fe he _,h.1.held he f,h.2.1.setCell (tW (by rw [<-h.2.2];exact he)) _ _,h.2.2⟩
theorem LN.refl{base p m n:Nat}{s:bw}{w:World}(h:CK w base p m n s):LN base p m n s w s w:=⟨h,Fr.refl _ _,rfl⟩
theorem KR(w:World)(base:Nat)(F:List Nat)(p N:Nat)(a:AS Int Ct)(h:CA w base F p N a)(k:Int)(v:Ct)(hk:jU k)(hN:N<3000000000000000000)(hv:a.val k=none):
   Calls Tryz.prog 38 #[.pointer (some ⟨p,0,none⟩),fV k,bV v] w fun x w'=>x= .returned (.tuple #[])/\Nx base F p N w (a.hold k v) w'/\a.hold k v={a with held:=a.held++ [(k,v)]}:=by
 have hz:=h.below ((Below.refl w.heap.size w).alloc (Nat.le_refl _) (.cells (av v).toArray 93))
 have r0:=aF w (.cells (av v).toArray 93)
 have hs:(w.alloc (.cells (av v).toArray 93)).heap.size=w.heap.size+1:=by simp
 have Ip:=aa (fun w' (q:Nx base F p N (w.alloc (.cells (av v).toArray 93)) (a.hold k v) w')=>q.PQ)
 have LC:=aa (show(Tryz.prog.info? 93).map (·.size)=some (av v).toArray.size by rw [mi];rfl)
 clear h
 obtain⟨m,n,s,L,rfl,hC,hA,h1,h2,h3⟩:=hz
 have hl:=hA.nh hv
 have PT:=KN a k v
 have c1:=hC.c1
 have Mr:(L false).length<4000000000000000000:=by rw [hA.pG];unfold AS.tot at h2;omega
 have hlk:=hC.nh hk hl
 have mM:=hC.fresh1
 rw [hs]at mM
 have hA1:=hA.Uy mM hl v
 have e1:a.hold k v={a with held:=a.held++ [(k,v)]}:=by
   unfold AS.hold;rw [hA.qJ hl];simp only
   rw [Bv ((ke _ _).1 (hA.qK hl))]
 have E1:=aa e1
 have wT:=aa (zo (w.alloc (.cells (av v).toArray 93)) base p m n s hC hC.base k v hk (by omega))
 have hR:=(hA.ref.enter mM hl v).bU true
 obtain⟨j1,j2,j3⟩:=hR.Ai false Mr
 have eY:=fun(w1 w2:World) (q1:Fr (dD p m s) (w.alloc (.cells (av v).toArray 93)) w1) (q2:LN base p m (n+1) (s.enter ((w.alloc (.cells (av v).toArray 93)).heap.size+1) k v) w1 ((s.enter ((w.alloc (.cells (av v).toArray 93)).heap.size+1) k v).bU ((w.alloc (.cells (av v).toArray 93)).heap.size+1) true) (w1.setCell ⟨(w.alloc (.cells (av v).toArray 93)).heap.size+1,3,none⟩ (.bool true))) (q3:LN base p m (n+1) ((s.enter ((w.alloc (.cells (av v).toArray 93)).heap.size+1) k v).bU ((w.alloc (.cells (av v).toArray 93)).heap.size+1) true) (w1.setCell ⟨(w.alloc (.cells (av v).toArray 93)).heap.size+1,3,none⟩ (.bool true)) (((s.enter ((w.alloc (.cells (av v).toArray 93)).heap.size+1) k v).bU ((w.alloc (.cells (av v).toArray 93)).heap.size+1) true).iu false ((w.alloc (.cells (av v).toArray 93)).heap.size+1)) w2)=>(by
     refine Ip.out w2 ?_
     rw [e1]
     have hA2:=hA1
     rw [<-hs]at hA2
     exact BB q1 (q2.trans q3) hA2 h1 (by rw [<-e1];omega) h3:Nx base (dD p m s) p N w (a.hold k v) w2)
 rw [hs]at wT eY
 have iD:=aa (fun w1 (q:CK w1 base p m (n+1) (s.enter (w.heap.size+1+1) k v))=>(LN.refl q).bU (e:=w.heap.size+1+1) List.mem_cons_self true)
 have wU:=aa (fun w1 (q:LN base p m (n+1) (s.enter (w.heap.size+1+1) k v) w1 ((s.enter (w.heap.size+1+1) k v).bU (w.heap.size+1+1) true) (w1.setCell ⟨w.heap.size+1+1,3,none⟩ (.bool true)))=>Bt _ base p m (n+1) _ q.1 false (w.heap.size+1+1) List.mem_cons_self j2 j3 5 rfl)
 have wV:=aa eY
 clear hC hA hl PT hA1 hR j1 j2 j3 e1 mM Mr eY hv
 simp only [fV,bV]at*
 generalize hS1:s.enter (w.heap.size+1+1) k v=s1 at*
 obtain⟨H,hH⟩: ∃H,H=w.heap.size+1+1:=⟨_,rfl⟩
 rw [<-hH]at wT iD wU wV
 clear hS1 hH hs
 generalize s1.bU H true=s2 at*
 generalize s2.iu false H=s3 at*
 generalize av v=C at*
 go_enter Tryz.func38,Tryz.ntmps38
 go_wp2_with (first
   | refine aG (by rfl) 93 _ (by rfl) w.heap.size (by rfl) 93 _ _ _ r0 Tryz.underlying93 rfl LC.out ?_
   | (go_at_call 66;refine wT.out.mono ?_;rintro x w1 ⟨rfl,hc1,hf1⟩;obtain⟨ch,fh,Er⟩:=iD.out w1 hc1;have HF1:=aa hf1;have HL1:=aa Er;clear wT iD hc1 hf1 Er)
   | (go_at_call 68;refine(wU.out w1 HL1.out).mono ?_;rintro x w2 ⟨rfl,hl2⟩;have HX:=aa (wV.out w1 w2 HF1.out HL1.out hl2);clear wU wV hl2))
 go_end0
 exact⟨rfl,HX.out,E1.out⟩
end Go.Proofs.YtpdakmhnnkaafaaGreat.Ca
namespace Go.Proofs.YtpdakmhnnkaafaaGreat.Ca
set_option maxRecDepth 100000
set_option maxHeartbeats 40000000
set_option linter.unusedVariables false
set_option linter.unusedSimpArgs false
open Go.RowKit
attribute [local go_sem ↓] Go.wp_at_zero Go.wp_at_succ
theorem dS.settle1{s:bw}{L:Bool->List Nat}{a:AS Int Ct}(h:dS s L none a){R:List Nat}{e:Nat}(hL:L false=e::R):
   dS (((s.aZ false e).bU e false).dA true e) (fq (fq L false R) true (e::L true)) none {a with clean:=((s.E e).key,(s.E e).val)::a.clean,held:=a.held.tail}:=by
 have hm1:=Sm.aZ s false e
 have hR:=(h.ref.take (A:= []) hL).bU false
 have hE:(((s.aZ false e).bU e false).E e).held=false:=by rw [CS.bU,gV,if_pos rfl]
 have hR2:=hR.dA (r:=true) (by rw [hE];rfl)
 rw [eO _ _ (by decide)]at hR2
 have hm:=Sm.link ((s.aZ false e).bU e false) true none e (((s.aZ false e).bU e false).row true).first
 have Eo: ∀l,fI ((s.aZ false e).bU e false) l=fI s l:=fun l=>mh fun i _=>by
   rw [CS.bU,gV]
   split
   · subst i;exact⟨hm1.key e,hm1.val e⟩
   · exact⟨hm1.key i,hm1.val i⟩
 refine⟨hR2,(hm.room.trans hm1.room).trans h.room,?_,?_,(hm.bc.trans hm1.bc).trans h.bc,(hm.misses.trans hm1.misses).trans h.misses,(hm.gone.trans hm1.gone).trans h.gone⟩
 · rw [cV,CS.dA,mg hm,Eo,nC,h.clean]
 · rw [eO _ _ (by decide),cV,CS.dA,mg hm,Eo,<-h.held,hL]
   rfl
theorem Iq{base p m n:Nat}{s s' s3:bw}{w wr w3 w4:World}{e:Nat}(h1:LN base p m n s w s' wr)(h2:LN base p m n s' wr s3 w3)(he:e∈s3.bs)(h4:CK w4 base p m n (s3.drop (s3.E e).key))(hF:Fr (dD p m s3) w3.drew w4):
   (w4.cell? ⟨p,1,none⟩=some (.map (some m))/\w4.cell? ⟨e,0,none⟩=some (fV (s3.E e).key))/\LN base p m n s w (s3.drop (s3.E e).key) w4:=by
 have h3:=h1.trans h2
 refine⟨⟨h4.c1,h4.ek (b:=e) he⟩,h4,h3.2.1.trans' ?_,h3.2.2⟩
 rw [show dD p m s3=dD p m s by simp [dD,h3.2.2]]at hF
 exact⟨hF.os,hF.tape,hF.output,hF.size,hF.block⟩
theorem dS.release1{s:bw}{L:Bool->List Nat}{a:AS Int Ct}(h:dS s L none a){A:List Nat}{e:Nat}(hL:L false=A++ [e]):
   dS ((s.aZ false e).drop (s.E e).key) (fq L false A) none {a with held:=a.held.take A.length}:=by
 have hm:=Sm.aZ s false e
 have hR2:=(h.ref.take (B:= []) hL).drop
 rw [hm.key,List.append_nil]at hR2
 have hk: ∀l,fI ((s.aZ false e).drop (s.E e).key) l=fI s l:=fun l=>mh fun b _=>⟨hm.key b,hm.val b⟩
 refine⟨hR2,hm.room.trans h.room,?_,?_,hm.bc.trans h.bc,hm.misses.trans h.misses,hm.gone.trans h.gone⟩
 · rw [eO _ _ (by decide),hk];exact h.clean
 · rw [cV,hk,<-h.held,hL,kX,List.take_append_of_le_length (by rw [jN];exact Nat.le_refl _),List.take_of_length_le (by rw [jN];exact Nat.le_refl _)]
theorem Es(x y:Int)(w:World):(Builtin.max_ #[3,3] 3 #[.int .i64 x, .int .i64 y]).run Tryz.prog w= .ok (.int .i64 (if y>x then y else x)) w:=by
 simp [Builtin.max_,Builtin.max2,List.foldlM]
theorem NS(x y:Int)(w:World):(Builtin.min_ #[3,3] 3 #[.int .i64 x, .int .i64 y]).run Tryz.prog w= .ok (.int .i64 (if y<x then y else x)) w:=by
 simp [Builtin.min_,Builtin.min2,List.foldlM]
theorem FN(a:AS Int Ct)(j:Nat):AS.tot {a with clean:=(a.held.take j).reverse++a.clean,held:=a.held.drop j}=a.tot:=by
 unfold AS.tot;simp;omega
theorem wW(w:World)(base:Nat)(F:List Nat)(p N:Nat)(a:AS Int Ct)(h:CA w base F p N a)(hN:N<3000000000000000000):
   Calls Tryz.prog 78 #[.pointer (some ⟨p,0,none⟩)] w fun x w'=>x= .returned (.tuple #[])/\Nx base F p N w a.settle w':=by
 obtain⟨m,n,s,L,rfl,hC,hA,h1,h2,h3⟩:=h
 have HA:=aa hA
 have HC:=aa hC
 clear hC hA
 go_enter Tryz.func78,Tryz.ntmps78
 go_wp2
 go_loopw [2] (fun _ wr=> ∃j s' L',j<=a.held.length/\LN base p m n s w s' wr/\dS s' L' none {a with clean:=(a.held.take j).reverse++a.clean,held:=a.held.drop j}) (fun _ wr=>(intOf ((wr.cell? ⟨p,7,none⟩).getD undef)).toNat)
 case atStart=>exact⟨0,s,L,by omega,LN.refl HC.out,HA.out⟩
 case round=>
   obtain⟨j,s',L',hj,hLN,hAb⟩:=hrel
   have ht:=FN a j
   have c7:=hLN.1.c7
   have yl:s'.hd.count=((a.held.length-j:Nat):Int):=by
     have:=(hAb.ref.row false).count
     rw [hAb.pG]at this
     simp only [List.length_drop]at this
     exact this
   rw [yl]at c7
   by_cases hlt:j<a.held.length
   · obtain⟨e,R,hL⟩: ∃e R,L' false=e::R:=List.exists_cons_of_length_pos (by rw [hAb.pG];simp only [List.length_drop];omega)
     have PU:(L' false).length<4000000000000000000:=by rw [hAb.pG];unfold AS.tot at ht h2;simp only at ht⊢;omega
     have SJ:(L' true).length<4000000000000000000:=by rw [hAb.sS];unfold AS.tot at ht h2;simp only at ht⊢;omega
     obtain⟨k1,k2,k3,k4,k5,k6⟩:=hAb.ref.wR (A:= []) hL PU
     have c5:=hLN.1.c5
     rw [show s'.hd.first=some e by have:=(hAb.ref.row false).first;rw [hL]at this;exact this]at c5
     have H1:=aa (lT wr base p m n s' hLN.1 false e k1 k2 k3 k4 k5 k6 5 rfl)
     have hR:=(hAb.ref.take (A:= []) hL).bU false
     obtain⟨j1,j2,j3⟩:=hR.Ai true (by rw [eO _ _ (by decide)];exact SJ)
     have heb2:e∈(s'.aZ false e).bs:=by rw [(Sm.aZ s' false e).bs];exact k1
     have iD:=aa (fun w1 (q:LN base p m n s' wr (s'.aZ false e) w1)=>(hLN.trans q).bU heb2 false)
     have wU:=aa (fun w1 (q:LN base p m n s w ((s'.aZ false e).bU e false) w1)=>mC _ base p m n _ q.1 true e heb2 j1 j3 2 rfl)
     have HG:=aa (hAb.settle1 hL)
     have SM:=aa hAb
     have g1:(0:Int)<((a.held.length-j:Nat):Int):=by omega
     have HC7:=aa c7
     clear hAb hLN k1 k2 k3 k4 k5 k6 hR j1 j2 j3 heb2 SJ ht
     have oC:=aa hL
     have XQ:=aa PU
     clear hL PU
     generalize hs2:s'.aZ false e=s2 at*
     generalize (s2.E e).held=HB at*
     generalize hs3:s2.bU e false=s3 at*
     generalize hs4:s3.dA true e=s4 at*
     clear hs2 hs3 hs4
     simp only [cO]at c5
     generalize hD:a.held.length-j=D at*
     go_wp2_with (first
       | (go_at_call 67;refine H1.out.mono ?_;rintro x w1 ⟨rfl,hl1⟩;obtain⟨ch,fh,Er⟩:=iD.out w1 hl1;have HL1:=aa Er;clear H1 iD hl1 Er)
       | (go_at_call 70;refine(wU.out _ HL1.out).mono ?_;rintro x w2 ⟨rfl,hl2⟩;have HX:=aa (HL1.out.trans hl2);clear wU hl2))
     go_roundw
     case rel=>
       refine⟨j+1,_,fq (fq L' false R) true (e::L' true),by omega,HX.out,?_⟩
       have h5:=HG.out
       have e1:a.held.drop j=((s'.E e).key,(s'.E e).val)::a.held.drop (j+1):=by
         have h6:a.held.drop j=fI s' (L' false):=SM.out.held.symm
         rw [oC.out]at h6
         rw [h6,nC]
         congr 1
         have:=congrArg List.tail h6
         rw [List.tail_drop]at this
         rw [this];rfl
       simp only [List.tail_drop]at h5
       have e2:a.held.take (j+1)=a.held.take j++ [((s'.E e).key,(s'.E e).val)]:=by
         rw [List.take_add_one]
         congr 1
         have:=congrArg List.head? e1
         simp only [List.head?_drop,List.head?_cons]at this
         rw [this];rfl
       rw [e2,List.reverse_append]
       exact h5
     case measure=>
       have e1:=HX.out.1.c7
       have e2:=(HG.out.ref.row false).count
       rw [eO _ _ (by decide),cV]at e2
       rw [show s4.hd.count=(R.length:Int)from e2]at e1
       rw [e1,HC7.out]
       have:=SM.out.pG
       rw [oC.out]at this
       simp at this
       simp [intOf]
       omega
   · have g1: ¬((0:Int)<((a.held.length-j:Nat):Int)):=by omega
     obtain rfl:j=a.held.length:=by omega
     have HT:=aa (Bx wr base p m n s' hLN.1 L' _ hAb (by rw [ht];omega))
     have wV:=aa (fun w1 (q:LA base p m n s' wr (AS.trim {a with clean:=(a.held.take a.held.length).reverse++a.clean,held:=a.held.drop a.held.length}) w1)=>(by
       obtain⟨t,L2,q4,q5⟩:=q
       simp only [List.take_length,List.drop_length]at q5
       have:AS.tot a.settle<=N+1:=by
         unfold AS.settle
         rw [AS.Bu]
         simp only [List.take_length,List.drop_length]at ht
         omega
       exact LN.nx (hLN.trans q4) q5 (by omega) this (zq _):Nx base (dD p m s) p N w a.settle w1))
     clear hAb hLN yl ht
     generalize hD:a.held.length-a.held.length=D at*
     go_wp2_with (go_at_call 71;refine HT.out.mono ?_;rintro x w1 ⟨rfl,hr⟩;have HX:=aa (wV.out w1 hr);clear HT wV hr)
     go_end0
     exact⟨rfl,HX.out⟩
theorem Dr(w:World)(base:Nat)(F:List Nat)(p N:Nat)(a:AS Int Ct)(h:CA w base F p N a)(f:Int)(hN:N<3000000000000000000):
   Calls Tryz.prog 76 #[.pointer (some ⟨p,0,none⟩), .int .i64 f] w fun x w'=>x= .returned (.tuple #[])/\Nx base F p N w (a.release f.toNat) w':=by
 obtain⟨m,n,s,L,rfl,hC,hA,h1,h2,h3⟩:=h
 have HA:=aa hA
 have HC:=aa hC
 have UB:=Es f 0
 rw [show(if(0:Int)>f then(0:Int)else f)=(f.toNat:Int) by split<;>omega]at UB
 clear hC hA
 go_enter Tryz.func76,Tryz.ntmps76
 go_wp2
 go_loopw [4] (fun _ wr=> ∃j s' L',j<=a.held.length/\(j=a.held.length\/f.toNat<=j)/\LN base p m n s w s' wr/\dS s' L' none {a with held:=a.held.take j}) (fun _ wr=>(intOf ((wr.cell? ⟨p,7,none⟩).getD undef)).toNat)
 case atStart=>exact⟨a.held.length,s,L,by omega,Or.inl rfl,LN.refl HC.out,by rw [List.take_length];exact HA.out⟩
 case round=>
   obtain⟨j,s',L',hj,PL,hLN,hAb⟩:=hrel
   have c7:=hLN.1.c7
   have yl:s'.hd.count=(j:Int):=by
     have:=(hAb.ref.row false).count
     rw [hAb.pG]at this
     simp only [List.length_take,Nat.min_eq_left hj]at this
     exact this
   rw [yl]at c7
   have mP:=aa hAb
   have jk:=aa hLN
   clear hAb hLN
   by_cases hlt:f.toNat<j
   · have i1:((f.toNat:Nat):Int)<(j:Int):=by omega
     have hne:L' false≠ []:=fun q=>by have:=mP.out.pG;rw [q]at this;simp at this;omega
     obtain⟨A,e,hL⟩: ∃A e,L' false=A++ [e]:=(List.eq_nil_or_concat (L' false)).resolve_left hne|>.imp fun A h=>h.imp fun e h=>by rw [h];simp
     have hlen:A.length+1=j:=by
       have:=mP.out.pG
       rw [hL]at this
       simp at this
       omega
     have Ih:(L' false).length<4000000000000000000:=by
       rw [mP.out.pG]
       unfold AS.tot at h2
       simp only [List.length_take]
       omega
     obtain⟨k1,k2,k3,k4,k5,k6⟩:=mP.out.ref.wR (B:= []) hL Ih
     have c6:=jk.out.1.c6
     rw [show s'.hd.last=some e by have:=(mP.out.ref.row false).last;rw [hL,List.getLast?_append]at this;exact this]at c6
     have H1:=aa (lT wr base p m n s' jk.out.1 false e k1 k2 k3 k4 k5 k6 5 rfl)
     have HG:=aa (mP.out.release1 hL)
     have Ii:=aa (jk.out.1.kwf e k1)
     have hsm:=Sm.aZ s' false e
     have Ij:=hsm.key e
     have HE:=aa (show e∈(s'.aZ false e).bs by rw [hsm.bs];exact k1)
     clear k1 k2 k3 k4 k5 k6 Ih hne hL
     generalize hs3:s'.aZ false e=s3 at*
     clear hs3 hsm
     rw [<-Ij]at Ii HG
     generalize hk:(s3.E e).key=k at*
     have uE:=aa (fun w3 (q:LN base p m n s' wr s3 w3) w4 a b=>Iq (e:=e) jk.out q HE.out (w4:=w4) a b)
     have Bz:=aa (fun w3 (q:LN base p m n s' wr s3 w3)=>(⟨q.1.c1,q.1.ek HE.out⟩:w3.cell? ⟨p,1,none⟩=some (.map (some m))/\w3.cell? ⟨e,0,none⟩=some (fV (s3.E e).key)))
     rw [hk]at uE Bz
     clear hk Ij
     simp only [cO]at c6
     have HC7:=aa c7
     go_wp2_with (first
       | (go_at_call 67;refine H1.out.mono ?_;rintro x w3 ⟨rfl,hl3⟩;clear H1;have HS:=aa (Bz.out w3 hl3);have HD:=aa (show CK w3 base p m n s3/\jU k/\_ from⟨hl3.1,Ii.out,uE.out w3 hl3⟩);clear Bz uE hl3 c7 c6))
     refine wp_region_noPanic ?_
     refine wp_region_held_drew (S:=fun w'=>w'.cell? ⟨p,1,none⟩=some (.map (some m))/\w'.cell? ⟨e,0,none⟩=some (fV k)) (by kernel_rfl) HS.out (fun hHeld=>?_)
     refine ai 0 (.pointer (some ⟨p,0,none⟩)) rfl hHeld ?_
     try go_frame
     refine ai 4 (.pointer (some ⟨e,0,none⟩)) rfl hHeld ?_
     try go_frame
     refine ai 1 (.pointer (some ⟨p,0,none⟩)) rfl hHeld ?_
     try go_frame
     refine ai 5 (.pointer (some ⟨e,0,none⟩)) rfl hHeld ?_
     try go_frame
     refine ai 2 (.pointer (some ⟨p,1,none⟩)) rfl hHeld ?_
     try go_frame
     refine ai 6 (.pointer (some ⟨e,0,none⟩)) rfl hHeld ?_
     try go_frame
     refine aV 3 (.map (some m)) rfl (yA (by intro w hS;have hc:=hS.1;go_simp)) hHeld ?_
     try go_frame
     refine aV 7 (fV k) rfl (yA (by intro w hS;have hc:=hS.2;go_simp)) hHeld ?_
     try go_frame
     refine bR 8 rfl (fun K hK=>?_)
     refine step_drop (by rfl) (.tmp 26) (.tmp 30) (by rfl) base p m n s3 HD.out.1.drew (by rfl) k (by rfl) HD.out.2.1 ?_
     intro w4 hC4 hF4
     have HP4:=aa (HD.out.2.2 w4 hC4 hF4)
     clear hC4 hF4
     refine hK.out _ _ (HP4.out.1) ?_
     clear hK K hHeld
     intro hHeld
     have hL5:=HP4.out.2
     clear HP4 HD HS
     try go_frame
     refine dY ?_
     go_wp2
     go_roundw
     case rel=>exact⟨j-1,_,_,by omega,Or.inr (by omega),hL5,by
       have:=HG.out
       rw [show A.length=j-1 by omega]at this
       simp only [List.take_take]at this
       rw [show min (j-1) j=j-1 by omega]at this
       exact this⟩
     case measure=>
       have e1:=hL5.1.c7
       have e2:=(HG.out.ref.row false).count
       rw [cV]at e2
       rw [show(s3.drop k).hd.count=(A.length:Int)from e2]at e1
       rw [e1,HC7.out]
       simp [intOf]
       omega
   · have i1: ¬((f.toNat:Nat):Int)<(j:Int):=by omega
     go_wp2
     go_end0
     have e1:a.release f.toNat={a with held:=a.held.take j}:=by
       unfold AS.release
       rcases PL with q| q
       · rw [List.take_of_length_le (by omega),List.take_of_length_le (by omega)]
       · rw [show j=f.toNat by omega]
     refine⟨rfl,?_⟩
     rw [e1]
     exact LN.nx jk.out mP.out (by omega) (by unfold AS.tot at h2⊢;simp only [List.length_take];omega) h3
end Go.Proofs.YtpdakmhnnkaafaaGreat.Ca

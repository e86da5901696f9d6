import Derived.Test.YtpdakmhnnkaafaaGreatR12
import Derived.Test.YtpdakmhnnkaafaaGreatR10
import Derived.Maps.RangeWalk
namespace Go.Proofs.YtpdakmhnnkaafaaGreat.Ca
set_option maxRecDepth 100000
set_option maxHeartbeats 40000000
set_option linter.unusedVariables false
set_option linter.unusedSimpArgs false
open Go.RowKit
attribute [local go_sem ↓] Go.wp_at_zero Go.wp_at_succ
theorem Ds(r:Int)(m:Nat)(w:World):(Instr.build 126 #[(0, .int .i64 r),(1, .map (some m))]).run Tryz.prog w= .ok (.agg #[.int .i64 r, .map (some m), .pointer none, .pointer none, .int .i64 0, .pointer none, .pointer none, .int .i64 0, .int .i64 0, .int .i64 0, .int .i64 0, .int .i64 0, .int .i64 0]) w:=by kernel_rfl
def kq(room:Int):AS Int Ct:=⟨(min (max room 0) 4096).toNat,[],[],0,0,0⟩
def BC(room:Int):bw:=⟨min (max room 0) 4096,⟨none,none,0⟩,⟨none,none,0⟩,0,0,0,fun _=>⟨0,ct0,false,none,none⟩,[],fun _=>none⟩
theorem KT(room:Int):dS (BC room) (fun _=> []) none (kq room):=by
 refine⟨⟨fun r=>by cases r<;>exact⟨rfl,rfl,rfl,trivial⟩,fun r=>List.nodup_nil,fun b hb=>(by cases hb),fun e he=>(by cases he),fun r b hb=>(by cases hb),fun e he=>(by cases he),fun r b hb=>(by cases hb),fun b hb=>?_,fun k b hb=>(by cases hb)⟩,?_,rfl,rfl,rfl,rfl,rfl⟩
 · rcases hb with⟨r,hr⟩| h
   · cases hr
   · cases h
 · show min (max room 0) 4096=(((min (max room 0) 4096).toNat:Nat):Int)
   omega
theorem Ir:lS (.map []) (fun _=>none):=⟨Maps.isMap_empty,fun k _ _=>⟨rfl,rfl⟩,fun k b _ h=>by cases h⟩
theorem NT(w:World)(room:Int):
   Calls Tryz.prog 34 #[.int .i64 room] w fun x w'=>x= .returned (.pointer (some ⟨w.heap.size+1,0,none⟩))/\CA w' w.heap.size [w.heap.size+1,w.heap.size] (w.heap.size+1) 0 (kq room)/\Below w.heap.size w w':=by
 have AK:= @run_makeMap Tryz.prog
 have OY:=Ds (min (max room 0) 4096) w.heap.size
 have hmx:=Es room 0
 rw [show(if(0:Int)>room then(0:Int)else room)=max room 0 by split<;>omega]at hmx
 have Vy:=NS (max room 0) 4096
 rw [show(if(4096:Int)<max room 0 then(4096:Int)else max room 0)=min (max room 0) 4096 by split<;>omega]at Vy
 have hS:(BC room).room=min (max room 0) 4096:=rfl
 have HS:=aa hS
 clear hS
 generalize max room 0=r0 at*
 generalize min r0 4096=r1 at*
 go_enter Tryz.func34,Tryz.ntmps34
 go_wp2
 go_ret
 have hB1:Below w.heap.size w (w.alloc (.map #[] 0)):=(Below.refl _ w).alloc (Nat.le_refl _) _
 have hB2: ∀o,Below (w.alloc (.map #[] 0)).heap.size (w.alloc (.map #[] 0)) ((w.alloc (.map #[] 0)).alloc o):=fun o=>(Below.refl _ _).alloc (Nat.le_refl _) o
 have hs:(w.alloc (.map #[] 0)).heap.size=w.heap.size+1:=by simp
 refine⟨rfl,⟨w.heap.size,0,BC room,fun _=> [],rfl,⟨?_,fun b hb=>(by cases hb),⟨_,?_,Ir⟩,fun b hb=>(by cases hb),by omega,Nat.le_refl _,fun b hb=>(by cases hb)⟩,KT room,Nat.le_refl _,by simp [AS.tot,kq],by simp [kq]⟩,hB1.alloc (by rw [hs];omega) _⟩
 · have:=aF (w.alloc (.map #[] 0)) (.cells (ji w.heap.size (BC room)) 126)
   rw [hs]at this
   rw [show ji w.heap.size (BC room)= #[.int .i64 r1, .map (some w.heap.size), .pointer none, .pointer none, .int .i64 0, .pointer none, .pointer none, .int .i64 0, .int .i64 0, .int .i64 0, .int .i64 0, .int .i64 0, .int .i64 0] by unfold ji;rw [HS.out];rfl]at this⊢
   exact this
 · exact jZ (World.ownsMap_made w Tryz.prog 3 _) ((hB2 _).block w.heap.size (by rw [hs];omega))
end Go.Proofs.YtpdakmhnnkaafaaGreat.Ca
namespace Go.Proofs.YtpdakmhnnkaafaaGreat
set_option maxRecDepth 100000
set_option maxHeartbeats 40000000
set_option linter.unusedVariables false
set_option linter.unusedSimpArgs false
open Go.RowKit
open Go.Proofs.YtpdakmhnnkaafaaGreat.Ca (Ct ct0 av bV AS)
attribute [local go_sem ↓] Go.wp_at_zero Go.wp_at_succ
structure au where
 p:Nat
 g:Nat
 st:Nat
 pc:Nat
 F:List Nat
 FC:List Nat
 lb:List Nat
 D:DS
 s:aD
 nx:Nat
 ep:Int
 N:Nat
 a:AS Int Ct
 sv:Value
 aB:List Ct
 vs:List (Int×List Int)
 kv:Int->Int×List Int
def kY(g pc:Nat)(sv:Value):List Value:= [.pointer (some ⟨g,0,none⟩), .func (.func 33) #[.pointer (some ⟨g,0,none⟩)] #[], .pointer (some ⟨pc,0,none⟩),sv]
structure jQ (w:World) (base:Nat) (lb:List Nat) (c:Ct) (v:Int×List Int):Prop where
 kd:c.kd=v.1
 ow:Own w base (.slice c.sp c.n c.c) v.2
 bl: ∀k,(Value.slice c.sp c.n c.c).ownBlock=some k->k∈lb
 kk:1<=v.1/\v.1<=3
 le:v.2.length<=246
 by8:aS v.2
theorem jQ.to{w w1:World}{base:Nat}{lb lb1:List Nat}{c:Ct}{v:Int×List Int}(h:jQ w base lb c v)(hl: ∀k∈lb,k∈lb1)(hk: ∀k∈lb,w1.heap[k]? =w.heap[k]?):jQ w1 base lb1 c v:=
 ⟨h.kd,h.ow.of_heap fun k e=>hk k (h.bl k e),fun k e=>hl k (h.bl k e),h.kk,h.le,h.by8⟩
def fW:Int->List Ct->List (Int×Ct)
 | _,[]=> []
 | n,c::r=>(n,c)::fW (n+1) r
theorem wY: ∀(l:List Ct) (n:Int) (c:Ct),fW n (l++ [c])=fW n l++ [(n+l.length,c)]
 | [],n,c=>by simp [fW]
 | x::l,n,c=>by
   simp only [List.cons_append,fW,wY l (n+1) c,List.length_cons]
   rw [show n+1+(l.length:Int)=n+((l.length+1:Nat):Int) by push_cast;omega]
theorem BD: ∀(l:List Ct) (n:Int) (j:Nat) (h:j<l.length),Ca.dr (fW n l) (n+j)=some (l.getD j ct0)
 | [],n,j,h=>by simp at h
 | x::l,n,0,h=>by simp [fW,Ca.dr]
 | x::l,n,j+1,h=>by
   have e:=BD l (n+1) j (by simpa using h)
   have hne: ¬(n=n+((j+1:Nat):Int)):=by push_cast;omega
   simp only [fW,Ca.dr,List.find?_cons,decide_eq_true_eq,hne,decide_false,List.getD_cons_succ]
   rw [show n+((j+1:Nat):Int)=n+1+(j:Int) by push_cast;omega]
   exact e
theorem qL: ∀(l:List Ct) (n k:Int),(k<n\/n+l.length<=k)->Ca.dr (fW n l) k=none
 | [],n,k,h=>rfl
 | x::l,n,k,h=>by
   have hne: ¬(n=k):=by simp at h;omega
   have e:=qL l (n+1) k (by simp at h;omega)
   simp only [fW,Ca.dr,List.find?_cons,hne,decide_false]
   exact e
structure SK (w:World) (base:Nat) (S:au):Prop where
 da:DA w base S.F S.p S.D
 fk:FK w S.g S.p S.s S.nx S.ep
 ca:Ca.CA w base S.FC S.pc S.N S.a
 sk:w.heap[S.st]? =some (.cells (kY S.g S.pc S.sv).toArray 96 (0,0))
 so:w.ownsRow base 93 2 S.sv S.aB.length (S.aB.flatMap av)
 lb: ∀k∈S.lb,base<=k/\ ∃cs,w.heap[k]? =some (.cells cs 5 (0,0))
 cl:S.aB.length=S.vs.length
 cv: ∀j,j<S.aB.length->jQ w base S.lb (S.aB.getD j ct0) (S.vs.getD j (0,[]))
 ck: ∀x∈S.a.clean,∃v,jQ w base S.lb x.2 v/\2<=x.1/\x.1<S.s.ma/\S.kv x.1=v
 hd:S.a.held=fW S.s.ma S.aB
 a1:eQ S.F S.FC
 a2:eQ S.F S.lb
 a3:eQ S.FC S.lb
 bg:base<=S.g
 bs:base<=S.st
 bp:base<=S.pc
theorem SK.BG{w:World}{base:Nat}{S:au}(h:SK w base S):S.g<w.heap.size:=aC h.fk
theorem SK.iW{w:World}{base:Nat}{S:au}(h:SK w base S):S.st<w.heap.size:=aC h.sk
theorem SK.base{w:World}{base:Nat}{S:au}(h:SK w base S):base<=w.heap.size:=by have:=h.BG;have:=h.bg;omega
theorem SK.Aj{w:World}{base:Nat}{S:au}(h:SK w base S){k:Nat}(e:S.sv.ownBlock=some k):base<=k/\ ∃cs,w.heap[k]? =some (.cells cs 93 (0,0)):=by
 obtain⟨h1,cur,h2⟩:=aH h.so k e;exact⟨h1,cur,h2⟩
theorem SK.of_heap{w w1:World}{base:Nat}{S:au}(h:SK w base S)(hk: ∀k,k=S.g\/k=S.st\/k∈S.F\/k∈S.FC\/S.sv.ownBlock=some k\/k∈S.lb->w1.heap[k]? =w.heap[k]?)(hs:w.heap.size<=w1.heap.size):SK w1 base S:=by
 have hl: ∀k∈S.lb,w1.heap[k]? =w.heap[k]? :=fun k q=>hk k (by simp [q])
 refine⟨h.da.of_heap fun k q=>hk k (by simp [q]),(hk S.g (by simp)).trans h.fk,?_,(hk S.st (by simp)).trans h.sk,cZ h.so fun k e=>hk k (by simp [e]),fun k q=>⟨(h.lb k q).1,?_⟩,h.cl,fun j hj=>(h.cv j hj).to (fun k q=>q) hl,fun x hx=>?_,h.hd,h.a1,h.a2,h.a3,h.bg,h.bs,h.bp⟩
 · obtain⟨m,n,s,L,e,c,r⟩:=h.ca
   exact⟨m,n,s,L,e,c.of_heap fun i hi=>hk i (by rw [e];simp [hi]),r⟩
 · obtain⟨cs,hc⟩:=(h.lb k q).2
   exact⟨cs,(hl k q).trans hc⟩
 · obtain⟨v,h1,h2⟩:=h.ck x hx
   exact⟨v,h1.to (fun k q=>q) hl,h2⟩
theorem SK.dG{w:World}{base:Nat}{S:au}(h:SK w base S){k:Nat}(hk:k=S.g\/k=S.st\/k∈S.F\/k∈S.FC\/S.sv.ownBlock=some k\/k∈S.lb):base<=k/\k<w.heap.size:=by
 rcases hk with e| e| e| e| e| e
 · rw [e];exact⟨h.bg,h.BG⟩
 · rw [e];exact⟨h.bs,h.iW⟩
 · exact h.da.lt k e
 · exact h.ca.lt k e
 · obtain⟨h1,cs,h2⟩:=h.Aj e;exact⟨h1,aC h2⟩
 · obtain⟨h1,cs,h2⟩:=h.lb k e;exact⟨h1,aC h2⟩
theorem SK.below{w w1:World}{base:Nat}{S:au}(h:SK w base S)(hb:Below w.heap.size w w1):SK w1 base S:=h.of_heap (fun k hk=>hb.block k (h.dG hk).2) hb.size
theorem SK.drew{w:World}{base:Nat}{S:au}(h:SK w base S):SK w.drew base S:=h.below (Below.refl _ _).drew
theorem SK.c0{w:World}{base:Nat}{S:au}(h:SK w base S):w.cell? ⟨S.st,0,none⟩=some (.pointer (some ⟨S.g,0,none⟩)):=by rw [cell_of_row _ _ _ _ _ _ h.sk];rfl
theorem SK.c1{w:World}{base:Nat}{S:au}(h:SK w base S):w.cell? ⟨S.st,1,none⟩=some (.func (.func 33) #[.pointer (some ⟨S.g,0,none⟩)] #[]):=by rw [cell_of_row _ _ _ _ _ _ h.sk];rfl
theorem SK.c2{w:World}{base:Nat}{S:au}(h:SK w base S):w.cell? ⟨S.st,2,none⟩=some (.pointer (some ⟨S.pc,0,none⟩)):=by rw [cell_of_row _ _ _ _ _ _ h.sk];rfl
theorem SK.c3{w:World}{base:Nat}{S:au}(h:SK w base S):w.cell? ⟨S.st,3,none⟩=some S.sv:=by rw [cell_of_row _ _ _ _ _ _ h.sk];rfl
theorem SK.Iu{w:World}{base:Nat}{S:au}(h:SK w base S): ∃sp cap,S.sv= .slice sp S.aB.length cap:=ei h.so
theorem yo{ops:Array Oper}{rest:List Oper}{o:Oper}{a:Act}{w:World}{Q:Exit->Act->World->Prop}(hg:o.guard=none)(x:Operand)(ho:o.op= .field 40 x 2)(s2:aD)(y:Int)(hy:s2.ma=y)(hx:a.eval x= .agg (ae s2))
   (h:wpList Tryz.prog ops Q rest (a.put o.dst (.int .i64 y)) w):wpList Tryz.prog ops Q (o::rest) a w:=by
 refine wpList_plain hg fun K hK=>?_
 unfold Oper.wp
 have e:(execOp a.eval o).run Tryz.prog w= .ok (.value (.int .i64 y)) w:=by
   subst hy
   unfold execOp
   simp only [ho,hx]
   kernel_rfl
 rw [e]
 exact hK _ _ h
theorem gh{ops:Array Oper}{rest:List Oper}{o:Oper}{a:Act}{w:World}{Q:Exit->Act->World->Prop}(hg:o.guard=none)(x:Operand)(ho:o.op= .field 40 x 1)(s2:aD)(y:Int)(hy:s2.ge=y)(hx:a.eval x= .agg (ae s2))
   (h:wpList Tryz.prog ops Q rest (a.put o.dst (.int .i64 y)) w):wpList Tryz.prog ops Q (o::rest) a w:=by
 refine wpList_plain hg fun K hK=>?_
 unfold Oper.wp
 have e:(execOp a.eval o).run Tryz.prog w= .ok (.value (.int .i64 y)) w:=by
   subst hy
   unfold execOp
   simp only [ho,hx]
   kernel_rfl
 rw [e]
 exact hK _ _ h
theorem dn(w:World)(base:Nat)(S:au)(h:SK w base S):
   Calls Tryz.prog 35 #[.pointer (some ⟨S.st,0,none⟩)] w fun e w'=>e= .returned (.int .i64 (ak S.D S.ep))/\Below w.heap.size w w':=by
 have HL:=aa (gD w base S.F S.p S.D h.da S.g S.s S.nx S.ep h.fk)
 have c0:=h.c0
 clear h
 go_enter Tryz.func35,Tryz.ntmps35
 go_wp2_with fail
 refine HL.out.mono ?_
 rintro e w1 ⟨rfl,hb⟩
 go_wp2
 go_ret
 exact⟨rfl,hb⟩
theorem sV(w:World)(base:Nat)(S:au)(h:SK w base S):
   Calls Tryz.prog 65 #[.pointer (some ⟨S.st,0,none⟩)] w fun e w'=>e= .returned (.int .i64 S.s.ma)/\Below w.heap.size w w':=by
 have HL:=aa (wJ w S.g S.p S.s S.nx S.ep h.fk)
 have c0:=h.c0
 clear h
 go_enter Tryz.func65,Tryz.ntmps65
 go_wp2_with fail
 refine HL.out.mono ?_
 rintro e w1 ⟨rfl,hb⟩
 go_wp2_with (first| refine yo rfl _ rfl S.s S.s.ma rfl rfl ?_)
 go_ret
 exact⟨rfl,hb⟩
theorem Dt(w:World)(base:Nat)(S:au)(h:SK w base S)(hl:S.aB.length<=100000):
   Calls Tryz.prog 52 #[.pointer (some ⟨S.st,0,none⟩)] w fun e w'=>e= .returned (.int .i64 S.aB.length)/\w=w':=by
 have c3:=h.c3
 obtain⟨sp,cap,e⟩:=h.Iu
 rw [e]at c3
 have i0:(S.aB.length:Int)<=100000:=by omega
 clear h e
 generalize S.aB.length=n at*
 go_enter Tryz.func52,Tryz.ntmps52
 go_wp2
 go_ret
 exact⟨rfl,rfl⟩
theorem mZ(w:World)(base:Nat)(S:au)(h:SK w base S):
   Calls Tryz.prog 16 #[.pointer (some ⟨S.st,0,none⟩)] w fun e w'=>e= .returned (.int .i64 S.D.np)/\w=w':=by
 have HL:=aa (kA w base S.F S.p S.D h.da)
 have c0:=h.c0
 have g0:=h.fk.c0
 clear h
 go_enter Tryz.func16,Tryz.ntmps16
 go_wp2_with fail
 refine HL.out.mono ?_
 rintro e w1 ⟨rfl,rfl⟩
 go_wp2
 go_ret
 exact⟨rfl,rfl⟩
theorem kD(w:World)(base:Nat)(S:au)(h:SK w base S)(hl:S.aB.length<=100000)(hm:0<=S.s.ma/\S.s.ma<=100000):
   Calls Tryz.prog 36 #[.pointer (some ⟨S.st,0,none⟩)] w fun e w'=>e= .returned (.int .i64 (S.s.ma+S.aB.length))/\Below w.heap.size w w':=by
 have HM:=aa (fun w1 (q:Below w.heap.size w w1)=>sV w1 base S (h.below q))
 have c3:=h.c3
 have hst:=h.iW
 obtain⟨sp,cap,e⟩:=h.Iu
 rw [e]at c3
 clear h e
 generalize S.aB.length=n at*
 generalize S.s.ma=ma at*
 generalize S.st=st at*
 obtain⟨m0,m1⟩:=hm
 have i0:(n:Int)<=100000:=by omega
 go_enter Tryz.func36,Tryz.ntmps36
 go_wp2
 refine wp_region_noPanic ?_
 refine wp_region_held_drew (S:=fun w'=>Below w.heap.size w w') (by kernel_rfl) (Below.refl _ _).drew (fun hHeld=>?_)
 refine ai 0 (.pointer (some ⟨st,0,none⟩)) rfl hHeld ?_
 try go_frame
 refine ai 2 (.pointer (some ⟨st,0,none⟩)) rfl hHeld ?_
 try go_frame
 refine ai 3 (.pointer (some ⟨st,0,none⟩)) rfl hHeld ?_
 try go_frame
 refine ai 4 (.pointer (some ⟨st,3,none⟩)) rfl hHeld ?_
 try go_frame
 refine aV 5 (.slice sp n cap) rfl (yA (by intro w hS;have hc:=(hS.cell (p:=⟨st,3,none⟩) hst).trans c3;go_simp)) hHeld ?_
 try go_frame
 refine ai 6 (.int .i64 n) rfl hHeld ?_
 try go_frame
 refine bR 1 rfl (fun K hK=>?_)
 go_simp
 go_at_call 65
 refine(HM.out _ hHeld).mono ?_
 rintro e w4 ⟨rfl,hb4⟩
 go_wp2_with fail
 refine hK.out _ _ (hHeld.trans (hb4.mono hHeld.size)) ?_
 clear hK K hHeld
 intro hHeld
 clear hb4
 try go_frame
 refine aV 7 (.int .i64 (ma+n)) rfl (yA (by intro w hS;(go_simp;all_goals exact ig _ (by omega) (by omega)))) hHeld ?_
 try go_frame
 refine ai 8 (.int .i64 (ma+n)) rfl hHeld ?_
 try go_frame
 refine dY ?_
 go_wp2
 go_ret
 exact⟨rfl,hHeld⟩
theorem jF(w:World)(base:Nat)(S:au)(h:SK w base S)(hl:S.aB.length<=100000)(hm:0<=S.s.ma/\S.s.ma<=100000)(q:Int):
   Calls Tryz.prog 39 #[.pointer (some ⟨S.st,0,none⟩), .int .i64 q] w fun e w'=>e= .returned (.bool (decide (2<=q/\q<S.s.ma+S.aB.length)))/\Below w.heap.size w w':=by
 have HN:=aa (kD w base S h hl hm)
 clear h
 by_cases h1:2<=q
 · by_cases h2:q<S.s.ma+S.aB.length
   · rw [decide_eq_true ⟨h1,h2⟩]
     generalize S.s.ma+(S.aB.length:Int)=t at*
     go_enter Tryz.func39,Tryz.ntmps39
     go_wp2_with fail
     refine HN.out.mono ?_
     rintro e w1 ⟨rfl,hb⟩
     go_wp2
     go_ret
     exact⟨congrArg (fun b=>Ending.returned (Value.bool b)) (by first| rfl| simp [h2]| (simp;omega)),hb⟩
   · rw [decide_eq_false (fun x=>h2 x.2)]
     generalize S.s.ma+(S.aB.length:Int)=t at*
     go_enter Tryz.func39,Tryz.ntmps39
     go_wp2_with fail
     refine HN.out.mono ?_
     rintro e w1 ⟨rfl,hb⟩
     go_wp2
     go_ret
     exact⟨congrArg (fun b=>Ending.returned (Value.bool b)) (by first| rfl| simp [h2]| (simp;omega)),hb⟩
 · rw [decide_eq_false (fun x=>h1 x.1)]
   clear HN
   go_enter Tryz.func39,Tryz.ntmps39
   go_wp2
   go_ret
   exact⟨congrArg (fun b=>Ending.returned (Value.bool b)) (by first| rfl| simp [h1]| (simp;omega)),Below.refl _ _⟩
theorem qM(w:World)(zs:List Int)(sp:Option Addr)(cap:Nat)(hS:Src w sp cap zs)(hn:sp=none->cap=0)(hl:zs.length<=1000):
   Calls Tryz.prog 37 #[.slice sp zs.length cap] w fun e w'=> ∃v,e= .returned v/\Own w' w.heap.size v zs/\Below w.heap.size w w':=by
 have hE:=Own.nil w w.heap.size
 have i0:(zs.length:Int)<=1000:=by omega
 go_enter Tryz.func37,Tryz.ntmps37
 go_wp2_with (first| (at_builtin;refine jy rfl (.const (.slice none 0 0)) (.tmp 3) rfl w.heap.size _ [] zs rfl hE sp cap rfl hn hS (by simp;omega) (Nat.le_refl _) ?_;intro v2 w2 hO2 hg2 hd2))
 go_ret
 exact⟨_,rfl,hO2,dx hg2 (fun k hk=>by cases hk) (Nat.le_refl _)⟩
theorem iX(w:World)(base:Nat)(S:au)(h:SK w base S):
   Calls Tryz.prog 51 #[.pointer (some ⟨S.st,0,none⟩)] w fun e w'=>e= .returned (.agg (ae S.s))/\Below w.heap.size w w':=by
 have b0:=aq w (.cells (ae sup0) 40)
 have r0:=aF w (.cells (ae sup0) 40)
 have HL:=aa (wJ _ S.g S.p S.s S.nx S.ep (h.below b0).fk)
 have c0:(w.alloc (.cells #[.int .i64 0, .int .i64 0, .int .i64 0, .int .i64 0, .int .i64 0] 40)).cell? ⟨S.st,0,none⟩=some (.pointer (some ⟨S.g,0,none⟩)):=(h.below b0).c0
 have hz:=b0.size
 clear h
 generalize S.s=s at*
 go_enter Tryz.func51,Tryz.ntmps51
 go_wp2_with fail
 refine HL.out.mono ?_
 rintro e w1 ⟨rfl,hb⟩
 have r1:=(hb.block w.heap.size (by simp)).trans r0
 have b1:=b0.trans (hb.mono hz)
 clear hb b0 r0 HL c0
 go_wp2_with (first
   | (refine wpList_store_row (by rfl) 40 (.tmp 2) (.tmp 7) (by rfl) w.heap.size (ae s) (by rfl) (by rfl) 40 (ae sup0) (by exact r1) (bQ _) (jB _ _) (ew _) ?_))
 exact bodyPost_ret (v:= .agg (ae s)) (results_cell_row Tryz.results51 _ _ w.heap.size 40 _ _ _ rfl (setRow_heap _ _ _ _ _ _ r1) Tryz.underlying40 rfl (by rw [cj];rfl)) rfl ⟨rfl,below_setRow b1 (Nat.le_refl _) _⟩
theorem Ca.CA.NU{w:World}{base b2:Nat}{F:List Nat}{p N:Nat}{a:AS Int Ct}(h:Ca.CA w base F p N a)(hb:b2<=base):Ca.CA w b2 F p N a:=by
 obtain⟨m,n,s,L,e,c,r⟩:=h
 exact⟨m,n,s,L,e,⟨c.cell,c.ents,c.mp,c.kwf,Nat.le_trans hb c.bp,Nat.le_trans hb c.bm,fun b q=>Nat.le_trans hb (c.bb b q)⟩,r⟩
theorem Du(g pc:Nat)(w:World):(Instr.build 96 #[(0, .pointer (some ⟨g,0,none⟩)),(1, .func (.func 33) #[.pointer (some ⟨g,0,none⟩)] #[]),(2, .pointer (some ⟨pc,0,none⟩))]).run Tryz.prog w= .ok (.agg #[.pointer (some ⟨g,0,none⟩), .func (.func 33) #[.pointer (some ⟨g,0,none⟩)] #[], .pointer (some ⟨pc,0,none⟩), .slice none 0 0]) w:=by kernel_rfl
theorem qN(w:World)(base:Nat)(F:List Nat)(p:Nat)(D:DS)(h:DA w base F p D)(g:Nat)(s:aD)(nx ep:Int)(hf:FK w g p s nx ep)(hbg:base<=g)(hlv:ak D ep=0)(room:Int)(hr:0<=room/\room<=4096)(m:Nat)(hm:s.ma=m):
   Calls Tryz.prog 13 #[.pointer (some ⟨g,0,none⟩), .int .i64 room] w fun e w'=> ∃st pc FC,e= .returned (.tuple #[.pointer (some ⟨st,0,none⟩), .int .i64 0])/\SK w' base ⟨p,g,st,pc,F,FC,[],D,s,m,ep,0,Ca.kq room, .slice none 0 0,[],[],fun _=>(0,[])⟩/\w.heap.size<=st/\(∀k∈FC,w.heap.size<=k)/\Fr (g::F) w w':=by
 have HL:=aa (gD w base F p D h g s nx ep hf)
 rw [hlv]at HL
 have Vz:=aa (fun(w1:World) (hb:Below w.heap.size w w1)=>wN w1 base F p D (h.below hb) g s nx ep (hf.below hb))
 have HW:=aa (aC hf)
 obtain⟨r0,r1⟩:=hr
 have XR:=aa (show 0<=room/\room<=4096 from⟨r0,r1⟩)
 have OY:=Du g
 clear h hf hlv
 go_enter Tryz.func13,Tryz.ntmps13
 go_wp2_with fail
 refine HL.out.mono ?_
 rintro e w1 ⟨rfl,hb1⟩
 have HB1:=aa hb1
 clear hb1 HL
 go_wp2_with (first| (go_at_call 32;refine(Vz.out w1 HB1.out).mono ?_;rintro e w2 ⟨rfl,hD2,hF2,hf2⟩;have HD2:=aa hD2;have HF2:=aa hF2;have Hf2:=aa hf2;clear hD2 hF2 hf2))
 refine(Ca.NT w2 room).mono ?_
 rintro e w3 ⟨rfl,hc3,hb3⟩
 have HC3:=aa hc3
 have HB3:=aa hb3
 clear hc3 hb3
 go_wp2
 go_ret2
 have hw2:base<=w2.heap.size:=Nat.le_trans hbg (Nat.le_of_lt (Nat.lt_of_lt_of_le HW.out (Nat.le_trans HB1.out.size Hf2.out.size)))
 have hw12:w.heap.size<=w2.heap.size:=Nat.le_trans HB1.out.size Hf2.out.size
 have hw3:=HB3.out.size
 have hb4:=HB3.out.alloc hw3 (.cells #[.pointer (some ⟨g,0,none⟩), .func (.func 33) #[.pointer (some ⟨g,0,none⟩)] #[], .pointer (some ⟨w2.heap.size+1,0,none⟩), .slice none 0 0] 96)
 refine⟨w3.heap.size,w2.heap.size+1,[w2.heap.size+1,w2.heap.size],rfl,⟨HD2.out.below hb4,?_,(HC3.out.below (aq w3 _)).NU hw2,aF w3 _,nt _ _ _ _,fun k hk=>absurd hk (by simp),rfl,fun j hj=>absurd hj (by simp),fun x hx=>absurd hx (by simp [Ca.kq]),rfl,?_,fun k _ q=>absurd q (by simp),fun k _ q=>absurd q (by simp),hbg,Nat.le_trans hw2 hw3,by show base<=w2.heap.size+1;omega⟩,Nat.le_trans hw12 hw3,?_,?_⟩
 · show FK _ g p s (m:Int) ep
   rw [<-hm]
   exact HF2.out.below hb4
 · intro k hk q
   have:=(HD2.out.lt k hk).2
   simp at q
   omega
 · intro k hk
   simp at hk
   omega
 · exact((Fr.ba (F:=g::F) HB1.out).trans Hf2.out (Gr.refl _ _)).tail (F':=g::F) hb4
def au.fp(S:au):List Nat:=S.g::S.st::(S.F++(S.FC++(S.lb++S.sv.ownBlock.toList)))
theorem au.mem(S:au)(k:Nat):k∈S.fp↔(k=S.g\/k=S.st\/k∈S.F\/k∈S.FC\/k∈S.lb\/S.sv.ownBlock=some k):=by
 simp only [au.fp,List.mem_cons,List.mem_append,Option.mem_toList]
theorem Ag(k:Int)(sp:Option Addr)(n c:Nat)(w:World):(Instr.build 93 #[(0, .int .i64 k),(1, .slice sp n c)]).run Tryz.prog w= .ok (.agg #[.int .i64 k, .slice sp n c]) w:=by kernel_rfl
theorem PV:(Tryz.prog.info? 93).map (fun i=>(i.zero.map fun z=>z.cells.size,i.size,i.bytes))=some (some 2,2,32):=by kernel_rfl
theorem FO: ∃i z,Tryz.prog.info? 93=some i/\i.zero=some z/\z.cells.size=2/\i.size=2/\i.bytes=32:=by
 have h:=PV
 cases hq:Tryz.prog.info? 93 with
 | none=>rw [hq]at h;cases h
 | some i=>
   rw [hq]at h
   simp only [Option.map_some,Option.some.injEq,Prod.mk.injEq]at h
   obtain⟨h1,h2,h3⟩:=h
   cases hz:i.zero with
   | none=>rw [hz]at h1;cases h1
   | some z=>
     rw [hz]at h1
     exact⟨i,z,rfl,hz,by simpa using h1,h2,h3⟩
theorem NV(ks:List Value)(hk:ks.length=2)(w:World):
   (Instr.buildSlice 94 1 #[(0, .agg ks.toArray)]).run Tryz.prog w= .ok (.slice (some ⟨w.heap.size,0,none⟩) 1 1) (w.alloc (.cells ks.toArray 93)):=by
 obtain⟨i,z,hi,hz,Vg,hs,hb⟩:=FO
 exact run_buildSlice w 94 93 1 _ ks.toArray i z Tryz.underlying94 hi hz (by rw [hs];decide) (by rw [hs];decide) (by rw [hs];exact AL 2 _ ks hk (by simp))
theorem uG{w:World}{ops:Array Oper}{o:Oper}{a:Act}{K:Act->World->Prop}{Q:Exit->Act->World->Prop}{E:Prop}(hw:Region.wanted o (yielded ops a.tmps)=true)(x:Operand)(ho:o.op= .buildSlice 94 1 #[(0,x)])
   (ks:List Value) (hk:ks.length=2) (hx:a.eval x= .agg ks.toArray) (h:K (a.put o.dst (.slice (some ⟨w.heap.size,0,none⟩) 1 1)) (w.alloc (.cells ks.toArray 93))):
   if Region.wanted o (yielded ops a.tmps)=true then Oper.wp Tryz.prog o a w K Q else E:=by
 rw [if_pos hw]
 unfold Oper.wp execOp
 simp only [ho,List.map_toArray,List.map_cons,List.map_nil,hx,Sem.run_bind,NV ks hk w,Result.andThen_ok,Sem.run_pure]
 exact h
theorem xa{w:World}{ops:Array Oper}{o:Oper}{a:Act}{K:Act->World->Prop}{Q:Exit->Act->World->Prop}{E:Prop}(hgd:o.guard=none)(s x:Operand)
   (ho:o.op= .call {callee:= .builtin .append,args:= #[s,x],argTypes:= #[94,94]})
   (base:Nat) (v:Value) (n:Nat) (xs:List Value) (ks:List Value) (hs:a.eval s=v) (hown:w.ownsRow base 93 2 v n xs) (hx:a.eval x= .slice (some ⟨w.heap.size,0,none⟩) 1 1) (hl:ks.length=2) (h1: ∀y∈ks,y.oneCell'=true)
   (hlen:n+1<=400000000001) (hbase:base<=w.heap.size) (t:TypeId) (fr:Nat×Nat)
   (h: ∀v' w',w'.ownsRow base 93 2 v' (n+1) (xs++ks)->(w.alloc (.cells ks.toArray t fr)).grownBy w' v.ownBlock->(v'.ownBlock=v.ownBlock\/v'.ownBlock=some (w.heap.size+1))->K (a.put o.dst v') w'):
   if Region.wanted o (yielded ops a.tmps)=true then Oper.wp Tryz.prog o a (w.alloc (.cells ks.toArray t fr)) K Q else E:=by
 have hw:Region.wanted o (yielded ops a.tmps)=true:=by simp [Region.wanted,hgd]
 rw [if_pos hw]
 obtain⟨i5,z,hi5,hz5,hc5,hs5,hy5⟩:=FO
 have hown':(w.alloc (.cells ks.toArray t fr)).ownsRow base 93 2 v n xs:=cZ hown fun k hk=>by
   obtain⟨_,cur,hh⟩:=aH hown k hk
   rw [hh];exact hold hh
 obtain⟨v',w',hr,q1,q2,_,q4⟩:=run_append_own_at (P:=Tryz.prog) (w.alloc (.cells ks.toArray t fr)) base 94 o.type 93 i5 z 2 32 Tryz.underlying94 hi5 hz5 hs5 hy5 hc5 (by decide) v n _ hown' ⟨w.heap.size,0,none⟩ 1 1 ks (by omega) (by
   intro j u hu
   rw [Addr.add_mid,Nat.zero_add,cell_of_row _ _ _ _ _ _ (aF w _)]
   simpa using hu) h1 (by unfold maxLen;omega) (by omega) (by simp;omega)
 unfold Oper.wp execOp
 simp only [ho,resolve,invoke,builtin,Sem.run_bind,Sem.run_pure,Result.andThen_ok,List.map_toArray,List.map_cons,List.map_nil,hs,hx,hr]
 refine h v' w' q1 q2 ?_
 rcases q4 with e| e
 · exact Or.inl e
 · exact Or.inr (by rw [e];simp)
theorem SK.dE{w:World}{base:Nat}{S:au}(h:SK w base S){k:Nat}(e:S.sv.ownBlock=some k):k≠S.g/\k≠S.st/\k∉S.F/\k∉S.FC/\k∉S.lb:=by
 obtain⟨_,cs,hc⟩:=h.Aj e
 exact⟨cL hc h.fk (by decide),cL hc h.sk (by decide),h.da.cS hc (by decide) (by decide) (by decide),h.ca.cS hc (by decide) (by decide),fun q=>by
   obtain⟨_,cs2,hc2⟩:=h.lb k q
   exact cL hc hc2 (by decide) rfl⟩
theorem SK.ct{w:World}{base:Nat}{S:au}(h:SK w base S):S.st≠S.g/\S.st∉S.F/\S.st∉S.FC/\S.st∉S.lb:=
 ⟨cL h.sk h.fk (by decide),h.da.cS h.sk (by decide) (by decide) (by decide),h.ca.cS h.sk (by decide) (by decide),fun q=>by
   obtain⟨_,cs2,hc2⟩:=h.lb _ q
   exact cL h.sk hc2 (by decide) rfl⟩
theorem SK.kE{w:World}{base:Nat}{S:au}(h:SK w base S):S.g∉S.F/\S.g∉S.FC/\S.g∉S.lb:=
 ⟨h.fk.not h.da,h.ca.cS h.fk (by decide) (by decide),fun q=>by
   obtain⟨_,cs2,hc2⟩:=h.lb _ q
   exact cL h.fk hc2 (by decide) rfl⟩
theorem qO(c:Ct): ∀y∈av c,y.oneCell'=true:=by
 intro y hy
 simp only [av,List.mem_cons,List.mem_nil_iff,or_false]at hy
 rcases hy with rfl| rfl<;>rfl
theorem SK.grown{w3 w4:World}{base:Nat}{S:au}(h:SK w3 base S){o1 o2:Obj}(hg:((w3.alloc o1).drew.alloc o2).grownBy w4 S.sv.ownBlock)(v4:Value)(k:Nat)(hk:k<w3.heap.size)(h1:S.sv.ownBlock≠some k)(h2:k≠S.st):
   (w4.setCell ⟨S.st,3,none⟩ v4).heap[k]? =w3.heap[k]? :=by
 have s1:(w3.alloc o1).heap.size=w3.heap.size+1:=by simp
 have s2:((w3.alloc o1).drew.alloc o2).heap.size=w3.heap.size+2:=by
   rw [show((w3.alloc o1).drew.alloc o2).heap.size=(w3.alloc o1).heap.size+1 by simp [World.drew],s1]
 rw [heap_setCell_other _ ⟨S.st,3,none⟩ k v4 h2,hg.block k (by rw [s2];omega) (fun e=>h1 e.symm)]
 have e1:=(aq (w3.alloc o1).drew o2).block k (by show k<(w3.alloc o1).heap.size;rw [s1];omega)
 have e2:=(aq w3 o1).block k hk
 exact e1.trans e2
theorem SK.staged0{w3 w4:World}{base:Nat}{S:au}(h:SK w3 base S)(c:Ct){t2:Obj}(hg:((w3.alloc (.cells (av c).toArray 93)).drew.alloc t2).grownBy w4 S.sv.ownBlock)(v4:Value):
   Ca.CA (w4.setCell ⟨S.st,3,none⟩ v4) base S.FC S.pc S.N S.a/\(w4.setCell ⟨S.st,3,none⟩ v4).cell? ⟨S.st,2,none⟩=some (.pointer (some ⟨S.pc,0,none⟩))/\(w4.setCell ⟨S.st,3,none⟩ v4).rangeAt w3.heap.size 0 (av c)/\(w4.setCell ⟨S.st,3,none⟩ v4).heap[S.st]? =some (.cells (kY S.g S.pc v4).toArray 96 (0,0))/\w4.frozen? ⟨S.st,3,none⟩=false/\w4.cell? ⟨S.st,3,none⟩=some S.sv/\w3.heap.size<w4.heap.size:=by
 have s1:(w3.alloc (.cells (av c).toArray 93)).heap.size=w3.heap.size+1:=by simp
 have s2:((w3.alloc (.cells (av c).toArray 93)).drew.alloc t2).heap.size=w3.heap.size+2:=by
   rw [show((w3.alloc (.cells (av c).toArray 93)).drew.alloc t2).heap.size=(w3.alloc (.cells (av c).toArray 93)).heap.size+1 by simp [World.drew],s1]
 have hst:=h.iW
 have e4:w4.heap[S.st]? =some (.cells (kY S.g S.pc S.sv).toArray 96 (0,0)):=by
   rw [hg.block S.st (by rw [s2];omega) (fun e=>(h.dE e.symm).2.1 rfl)]
   exact((aq (w3.alloc (.cells (av c).toArray 93)).drew t2).block S.st (by show S.st<(w3.alloc (.cells (av c).toArray 93)).heap.size;rw [s1];omega)).trans (((aq w3 _).block S.st hst).trans h.sk)
 have e5:(w4.setCell ⟨S.st,3,none⟩ v4).heap[S.st]? =some (.cells (kY S.g S.pc v4).toArray 96 (0,0)):=by
   rw [heap_setCell_same _ _ _ _ _ _ e4];rfl
 refine⟨?_,by rw [cell_of_row _ _ _ _ _ _ e5];rfl,?_,e5,frozen_of_row _ _ _ _ _ e4,by rw [cell_of_row _ _ _ _ _ _ e4];rfl,by have:=hg.size;omega⟩
 · obtain⟨m,n,s,L,e,cc,r⟩:=h.ca
   refine⟨m,n,s,L,e,cc.of_heap fun k hk=>h.grown hg v4 k (h.ca.lt k (by rw [e];exact hk)).2 (fun q=>(h.dE q).2.2.2.1 (by rw [e];exact hk)) (fun q=>h.ct.2.2.1 (by rw [<-q,e];exact hk)),r⟩
 · have eN:(w4.setCell ⟨S.st,3,none⟩ v4).heap[w3.heap.size]? =some (.cells (av c).toArray 93 (0,0)):=by
     rw [heap_setCell_other _ ⟨S.st,3,none⟩ _ v4 (by show w3.heap.size≠S.st;omega),hg.block _ (by rw [s2];omega) (fun e=>by have:=(h.dG (Or.inr (Or.inr (Or.inr (Or.inr (Or.inl e.symm)))))).2;omega)]
     exact((aq (w3.alloc (.cells (av c).toArray 93)).drew t2).block w3.heap.size (by show _<(w3.alloc (.cells (av c).toArray 93)).heap.size;rw [s1];omega)).trans (aF w3 _)
   intro j v hv
   rw [cell_of_row _ _ _ _ _ _ eN]
   simpa using hv
theorem SK.PY{w2 w3 w4 w6:World}{base:Nat}{S:au}(h:SK w2 base S)(hb:Below w2.heap.size w2 w3)(c:Ct)(zs:List Int)(hO:Own w3 w2.heap.size (.slice c.sp c.n c.c) zs)(uH:1<=c.kd/\c.kd<=3)(hz:zs.length<=246)(h8:aS zs){t2:Obj}(v4:Value)
   (hO4:w4.ownsRow base 93 2 v4 (S.aB.length+1) (S.aB.flatMap av++av c)) (hg:((w3.alloc (.cells (av c).toArray 93)).drew.alloc t2).grownBy w4 S.sv.ownBlock) (hd:v4.ownBlock=S.sv.ownBlock\/v4.ownBlock=some (w3.heap.size+2)) (F':List Nat)
   (hC:Ca.CA w6 base F' S.pc (S.N+1) {S.a with held:=S.a.held++ [(S.s.ma+S.aB.length,c)]}) (hF:Fr S.FC (w4.setCell ⟨S.st,3,none⟩ v4) w6) (hG:Gr (w4.setCell ⟨S.st,3,none⟩ v4) S.FC F'):
   SK w6 base {S with FC:=F',lb:=(Value.slice c.sp c.n c.c).ownBlock.toList++S.lb,N:=S.N+1,a:={S.a with held:=S.a.held++ [(S.s.ma+S.aB.length,c)]},sv:=v4,aB:=S.aB++ [c],vs:=S.vs++ [(c.kd,zs)]}/\Fr S.fp w2 w6/\Gr w2 S.fp (au.fp {S with FC:=F',lb:=(Value.slice c.sp c.n c.c).ownBlock.toList++S.lb,sv:=v4}):=by
 have h3:=h.below hb
 obtain⟨c1,c2,c3,c4,c5,c6,c7⟩:=h3.staged0 c hg v4
 have hs5:(w4.setCell ⟨S.st,3,none⟩ v4).heap.size=w4.heap.size:=World.size_setCell _ _ _
 have hsz:=hb.size
 have hkeep: ∀k,k<w3.heap.size->S.sv.ownBlock≠some k->k≠S.st->k∉S.FC->w6.heap[k]? =w3.heap[k]? :=fun k k1 k2 k3 k4=>by
   rw [hF.block k (by rw [hs5];omega) k4]
   exact h3.grown hg v4 k k1 k2 k3
 have hnb: ∀k,(Value.slice c.sp c.n c.c).ownBlock=some k->w2.heap.size<=k/\k<w3.heap.size/\ ∃cs,w3.heap[k]? =some (.cells cs 5 (0,0)):=fun k e=>by
   obtain⟨q1,cur,q2⟩:=aH hO k e
   exact⟨q1,aC q2,cur,q2⟩
 have hold2: ∀k,(k=S.g\/k=S.st\/k∈S.F\/k∈S.FC\/S.sv.ownBlock=some k\/k∈S.lb)->base<=k/\k<w2.heap.size:=fun k q=>h.dG q
 have hnk: ∀k,(Value.slice c.sp c.n c.c).ownBlock=some k->w6.heap[k]? =w3.heap[k]? :=fun k e=>by
   obtain⟨q1,q2,_⟩:=hnb k e
   exact hkeep k q2 (fun z=>by have:=(hold2 k (by simp [z])).2;omega) (fun z=>by have:=(hold2 k (by simp [z])).2;omega) (fun z=>by have:=(hold2 k (by simp [z])).2;omega)
 have KU: ∀k∈S.lb,w6.heap[k]? =w3.heap[k]? :=fun k e=>by
   have q:=(hold2 k (by simp [e])).2
   exact hkeep k (by omega) (fun z=>(h3.dE z).2.2.2.2 e) (fun z=>h3.ct.2.2.2 (z▸e)) (fun z=>h.a3 k z e)
 have Iw: ∀k∈S.F,w6.heap[k]? =w3.heap[k]? :=fun k e=>by
   have q:=(hold2 k (by simp [e])).2
   exact hkeep k (by omega) (fun z=>(h3.dE z).2.2.1 e) (fun z=>h3.ct.2.1 (z▸e)) (fun z=>h.a1 k e z)
 have VA:w6.heap[S.g]? =w3.heap[S.g]? :=by
   have q:=h.BG
   exact hkeep S.g (by omega) (fun z=>(h3.dE z).1 rfl) (fun z=>h3.ct.1 z.symm) h3.kE.2.1
 have Qa: ∀k∈S.lb,k∈(Value.slice c.sp c.n c.c).ownBlock.toList++S.lb:=fun k q=>List.mem_append_right _ q
 have Ms: ∀k∈F',k∈S.FC\/w3.heap.size<=k:=fun k q=>(hG k q).imp id (fun z=>by rw [hs5]at z;omega)
 have hv4: ∀k,v4.ownBlock=some k->S.sv.ownBlock=some k\/k=w3.heap.size+2:=fun k e=>by
   rcases hd with q| q
   · exact Or.inl (q▸e)
   · rw [q]at e;cases e;exact Or.inr rfl
 have Qb: ∀k,v4.ownBlock=some k->k∉S.FC/\k≠S.st:=fun k e=>by
   rcases hv4 k e with q| q
   · exact⟨(h3.dE q).2.2.2.1,(h3.dE q).2.1⟩
   · exact⟨fun z=>by have:=(hold2 k (by simp [z])).2;omega,fun z=>by have:=(hold2 k (by simp [z])).2;omega⟩
 refine⟨⟨h3.da.of_heap Iw,VA.trans h3.fk,hC,?_,?_,?_,?_,?_,?_,?_,?_,?_,?_,h.bg,h.bs,h.bp⟩,?_,?_⟩
 · exact(hF.block S.st (by rw [hs5];have:=h.iW;omega) h3.ct.2.2.1).trans c4
 · show w6.ownsRow base 93 2 v4 (S.aB++ [c]).length ((S.aB++ [c]).flatMap av)
   rw [List.length_append,List.flatMap_append]
   have:=cZ (w1:=w6) hO4 fun k e=>by
     obtain⟨_,cur,q⟩:=aH hO4 k e
     rw [hF.block k (by rw [hs5];exact aC q) (Qb k e).1]
     exact heap_setCell_other _ ⟨S.st,3,none⟩ k v4 (Qb k e).2
   simpa using this
 · intro k hk
   rcases List.mem_append.1 hk with q| q
   · rw [Option.mem_toList]at q
     obtain⟨q1,q2,cs,q3⟩:=hnb k q
     exact⟨by have:=h.base;omega,cs,(hnk k q).trans q3⟩
   · obtain⟨q1,cs,q2⟩:=h3.lb k q
     exact⟨q1,cs,(KU k q).trans q2⟩
 · show(S.aB++ [c]).length=(S.vs++ [(c.kd,zs)]).length
   rw [List.length_append,List.length_append,h.cl];rfl
 · intro j hj
   have hj':j<S.aB.length+1:=by simpa using hj
   show jQ w6 base _ ((S.aB++ [c]).getD j ct0) ((S.vs++ [(c.kd,zs)]).getD j (0,[]))
   by_cases q:j<S.aB.length
   · have e1:(S.aB++ [c]).getD j ct0=S.aB.getD j ct0:=by rw [List.getD_eq_getElem?_getD,List.getElem?_append_left q,<-List.getD_eq_getElem?_getD]
     have e2:(S.vs++ [(c.kd,zs)]).getD j (0,[])=S.vs.getD j (0,[]):=by rw [List.getD_eq_getElem?_getD,List.getElem?_append_left (by rw [<-h.cl];exact q),<-List.getD_eq_getElem?_getD]
     rw [e1,e2]
     exact(h3.cv j q).to Qa KU
   · have hj2:j=S.aB.length:=by omega
     have e1:(S.aB++ [c]).getD j ct0=c:=by rw [hj2];simp
     have e2:(S.vs++ [(c.kd,zs)]).getD j (0,[])=(c.kd,zs):=by rw [hj2,h.cl];simp
     rw [e1,e2]
     exact⟨rfl,(hO.of_heap hnk).base h.base,fun k e=>List.mem_append_left _ (by rw [Option.mem_toList];exact e),uH,hz,h8⟩
 · intro x hx
   obtain⟨v,q1,q2⟩:=h3.ck x hx
   exact⟨v,q1.to Qa KU,q2⟩
 · show S.a.held++ [(S.s.ma+(S.aB.length:Int),c)]=fW S.s.ma (S.aB++ [c])
   rw [wY,h.hd]
 · intro k hk q
   rcases Ms k q with z| z
   · exact h.a1 k hk z
   · have:=(hold2 k (by simp [hk])).2;omega
 · intro k hk q
   rcases List.mem_append.1 q with z| z
   · rw [Option.mem_toList]at z
     have:=(hold2 k (by simp [hk])).2
     have:=(hnb k z).1;omega
   · exact h.a2 k hk z
 · intro k hk q
   rcases List.mem_append.1 q with z| z
   · rw [Option.mem_toList]at z
     obtain⟨z1,z2,_⟩:=hnb k z
     rcases Ms k hk with y| y
     · have:=(hold2 k (by simp [y])).2;omega
     · omega
   · rcases Ms k hk with y| y
     · exact h.a3 k y z
     · have:=(hold2 k (by simp [z])).2;omega
 · have g1:=hg
   refine⟨hF.os.trans (g1.os.trans hb.os),hF.tape.trans (g1.tape.trans hb.tape),hF.output.trans (g1.output.trans hb.output),by have:=hF.size;rw [hs5]at this;omega,fun k hk hn=>?_⟩
   have hn':=fun z=>hn ((S.mem k).2 z)
   rw [hkeep k (by omega) (fun z=>hn' (by simp [z])) (fun z=>hn' (by simp [z])) (fun z=>hn' (by simp [z]))]
   exact hb.block k hk
 · intro k hk
   rcases(au.mem _ k).1 hk with q| q| q| q| q| q
   · exact Or.inl ((S.mem k).2 (Or.inl q))
   · exact Or.inl ((S.mem k).2 (Or.inr (Or.inl q)))
   · exact Or.inl ((S.mem k).2 (by simp at q;simp [q]))
   · rcases Ms k q with z| z
     · exact Or.inl ((S.mem k).2 (by simp [z]))
     · exact Or.inr (by omega)
   · rcases List.mem_append.1 q with z| z
     · rw [Option.mem_toList]at z
       exact Or.inr (hnb k z).1
     · exact Or.inl ((S.mem k).2 (by simp [z]))
   · rcases hv4 k q with z| z
     · exact Or.inl ((S.mem k).2 (by simp [z]))
     · exact Or.inr (by omega)
end Go.Proofs.YtpdakmhnnkaafaaGreat

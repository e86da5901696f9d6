import Derived.Test.YtpdakmhnnkaafaaGreatR04
import Derived.Great.BuildSlice
namespace Go.Proofs.YtpdakmhnnkaafaaGreat
set_option maxRecDepth 100000
set_option maxHeartbeats 40000000
set_option linter.unusedVariables false
set_option linter.unusedSimpArgs false
open Go.RowKit
attribute [local go_sem ↓] Go.wp_at_zero Go.wp_at_succ
theorem DK.c0{w:World}{base:Nat}{P:DP}{D:DS}(h:DK w base P D):w.cell? ⟨P.p,0,none⟩=some (.int .i64 D.reads):=by rw [cell_of_row _ _ _ _ _ _ h.cell];rfl
theorem DK.c1{w:World}{base:Nat}{P:DP}{D:DS}(h:DK w base P D):w.cell? ⟨P.p,1,none⟩=some (.int .i64 D.writes):=by rw [cell_of_row _ _ _ _ _ _ h.cell];rfl
theorem DK.c2{w:World}{base:Nat}{P:DP}{D:DS}(h:DK w base P D):w.cell? ⟨P.p,2,none⟩=some (.int .i64 D.aA):=by rw [cell_of_row _ _ _ _ _ _ h.cell];rfl
theorem DK.c3{w:World}{base:Nat}{P:DP}{D:DS}(h:DK w base P D):w.cell? ⟨P.p,3,none⟩=some (.int .i64 D.ops.length):=by rw [cell_of_row _ _ _ _ _ _ h.cell];rfl
theorem DK.c4{w:World}{base:Nat}{P:DP}{D:DS}(h:DK w base P D):w.cell? ⟨P.p,4,none⟩=some (.slice (some ⟨P.g,0,none⟩) D.af.length P.gc):=by rw [cell_of_row _ _ _ _ _ _ h.cell];rfl
theorem DK.c5{w:World}{base:Nat}{P:DP}{D:DS}(h:DK w base P D):w.cell? ⟨P.p,5,none⟩=some P.ov:=by rw [cell_of_row _ _ _ _ _ _ h.cell];rfl
theorem DK.c6{w:World}{base:Nat}{P:DP}{D:DS}(h:DK w base P D):w.cell? ⟨P.p,6,none⟩=some (.map (some P.m)):=by rw [cell_of_row _ _ _ _ _ _ h.cell];rfl
theorem DK.c7{w:World}{base:Nat}{P:DP}{D:DS}(h:DK w base P D):w.cell? ⟨P.p,7,none⟩=some (.bool D.power):=by rw [cell_of_row _ _ _ _ _ _ h.cell];rfl
theorem DK.c8{w:World}{base:Nat}{P:DP}{D:DS}(h:DK w base P D):w.cell? ⟨P.p,8,none⟩=some (.int .i64 D.armed):=by rw [cell_of_row _ _ _ _ _ _ h.cell];rfl
theorem DK.c9{w:World}{base:Nat}{P:DP}{D:DS}(h:DK w base P D):w.cell? ⟨P.p,9,none⟩=some (.int .i64 D.ag):=by rw [cell_of_row _ _ _ _ _ _ h.cell];rfl
theorem DK.fz{w:World}{base:Nat}{P:DP}{D:DS}(h:DK w base P D)(k:Nat):w.frozen? ⟨P.p,k,none⟩=false:=frozen_of_row _ _ _ _ _ h.cell
theorem DK.put{w:World}{base:Nat}{P:DP}{D D':DS}(h:DK w base P D)(k:Nat)(v:Value)(hc:(kO P D).setIfInBounds k v=kO P D')(hi:D'.af=D.af)(ho:D'.ops=D.ops):DK (w.setCell ⟨P.p,k,none⟩ v) base P D':=by
 have hne: ∀i,i≠P.p->(w.setCell ⟨P.p,k,none⟩ v).heap[i]? =w.heap[i]? :=fun i hi=>heap_setCell_other w _ i v hi
 refine⟨?_,?_,?_,h.gm,?_,?_,?_,h.bp,h.bg,h.bm⟩
 · rw [heap_setCell_same _ _ _ _ _ _ h.cell,<-hc]
 · rw [hne _ h.pg.symm,hi];exact h.im
 · rw [hi];exact h.gl
 · rw [ho];exact cZ h.opn fun i e=>hne i (fun q=>h.po (q▸e))
 · rw [ho];exact iB h.mp (hne _ h.pm.symm)
 · rw [ho];exact h.new
theorem DK.hp{w:World}{base:Nat}{P:DP}{D:DS}(h:DK w base P D):P.p∈P.fp:=(P.mem _).2 (Or.inl rfl)
theorem AH(w:World)(n:Int):Calls Tryz.prog 54 #[.int .i64 n] w fun e w'=>e= .returned (.bool (decide (3<=n/\n<=4096)))/\w=w':=by
 by_cases h1:3<=n
 · by_cases h2:n<=4096
   · have e:decide (3<=n/\n<=4096)=true:=by simp [h1,h2]
     rw [e]
     clear e
     go_enter Tryz.func54,Tryz.ntmps54
     go_wp2
     go_ret
     exact⟨rfl,rfl⟩
   · have e:decide (3<=n/\n<=4096)=false:=by simp [h2]
     rw [e]
     clear e
     go_enter Tryz.func54,Tryz.ntmps54
     go_wp2
     go_ret
     exact⟨rfl,rfl⟩
 · have e:decide (3<=n/\n<=4096)=false:=by simp [h1]
   rw [e]
   clear e
   go_enter Tryz.func54,Tryz.ntmps54
   go_wp2
   go_ret
   exact⟨rfl,rfl⟩
theorem AJ(w:World)(base:Nat)(P:DP)(D:DS)(h:DK w base P D)(n:Nat)(hn:D.af.length=256*n)(h4:n<=4096):
   Calls Tryz.prog 29 #[.pointer (some ⟨P.p,0,none⟩)] w fun e w'=>e= .returned (.int .i64 n)/\w=w':=by
 have c4:=h.c4
 have HN:=aa hn
 have hq:((D.af.length:Nat):Int).tdiv 256=(n:Int):=by rw [HN.out,Int.natCast_mul];exact Int.mul_tdiv_cancel_left _ (by decide)
 have hb:((D.af.length:Nat):Int)<=1048576:=by rw [HN.out];omega
 clear hn
 go_enter Tryz.func29,Tryz.ntmps29
 go_wp2
 go_ret
 exact⟨by go_num,rfl⟩
theorem GR(w:World)(base:Nat)(P:DP)(D:DS)(h:DK w base P D)(n:Nat)(hn:D.af.length=256*n)(h4:n<=4096)(q:Int):
   Calls Tryz.prog 45 #[.pointer (some ⟨P.p,0,none⟩), .int .i64 q] w fun e w'=>e= .returned (.bool (decide (0<=q/\q<n)))/\w=w':=by
 have hP:=AJ w base P D h n hn h4
 have HP:=aa hP
 clear hP hn
 by_cases h1:0<=q
 · by_cases h2:q<n
   · have e:decide (0<=q/\q<n)=true:=by simp [h1,h2]
     rw [e]
     clear e
     go_enter Tryz.func45,Tryz.ntmps45
     go_wp2_with (go_at_call 29;refine HP.out.mono ?_;rintro e w1 ⟨rfl,rfl⟩)
     go_ret
     exact⟨rfl,rfl⟩
   · have e:decide (0<=q/\q<n)=false:=by simp [h2]
     rw [e]
     clear e
     go_enter Tryz.func45,Tryz.ntmps45
     go_wp2_with (go_at_call 29;refine HP.out.mono ?_;rintro e w1 ⟨rfl,rfl⟩)
     go_ret
     exact⟨by show Ending.returned (Value.bool (decide (q<(n:Int))))=_;rw [decide_eq_false (Int.not_lt.2 h2)],rfl⟩
 · have e:decide (0<=q/\q<n)=false:=by simp [h1]
   rw [e]
   clear e
   go_enter Tryz.func45,Tryz.ntmps45
   go_wp2_with (go_at_call 29;refine HP.out.mono ?_;rintro e w1 ⟨rfl,rfl⟩)
   go_ret
   exact⟨rfl,rfl⟩
theorem qE(w:World)(base:Nat)(P:DP)(D:DS)(h:DK w base P D)(n:Nat)(hn:D.af.length=256*n)(h4:n<=4096)(q:Nat)(hq:q<n):
   Calls Tryz.prog 46 #[.pointer (some ⟨P.p,0,none⟩), .int .i64 q] w fun e w'=>e= .returned (.slice (some ⟨P.g,q*256,none⟩) 256 (P.gc-q*256))/\w=w':=by
 have c4:=h.c4
 have gl:=h.gl
 have gm:=h.gm
 unfold maxLen at gm
 have HN:=aa hn
 have hb:((D.af.length:Nat):Int)<=1048576:=by rw [HN.out];omega
 have hb2:q*256+256<=D.af.length:=by rw [HN.out];omega
 have i1:(q:Int)<4096:=by omega
 clear hn
 generalize D.af.length=L at*
 go_enter Tryz.func46,Tryz.ntmps46
 go_wp2
 go_ret
 exact⟨by show Ending.returned (Value.slice _ ((q+1)*256-q*256) _)=_;rw [show(q+1)*256-q*256=256 by omega],rfl⟩
theorem GS(w:World):Own (w.alloc (.cells #[] 5)) w.heap.size (.slice (some ⟨w.heap.size,0,none⟩) 0 0) []:=
 ⟨rfl,Or.inr ⟨w.heap.size,0,#[],rfl,Nat.le_refl _,aF w _,Nat.le_refl _,by simp [maxLen],rfl,rfl⟩⟩
theorem sw(w:World)(zs:List Int)(sp:Option Addr)(cap:Nat)(hS:Src w sp cap zs)(hnil:sp=none->cap=0)(hlen:zs.length<=140737488351232):
   Calls Tryz.prog 25 #[.slice sp zs.length cap] w fun e w'=> ∃v,e= .returned v/\Own w' w.heap.size v zs/\Below w.heap.size w w':=by
 have q22: ∀(w:World) (a:Option Addr) (n c n' c':Nat),(binOp .eql 31 (.slice a n c) (.slice none n' c')).run Tryz.prog w= .ok (.bool a.isNone) w:=fun w a n c n' c'=>Lib.run_eql_slice_nil w _ _ a n c n' c' Tryz.underlying31
 cases sp with
 | none=>
   obtain rfl:=hnil rfl
   have hz:zs= []:=List.eq_nil_of_length_eq_zero (by have:=hS.1;omega)
   subst hz
   go_enter Tryz.func25,Tryz.ntmps25
   go_wp2
   go_ret
   exact⟨_,rfl,Own.nil _ _,Below.refl _ _⟩
 | some a=>
   have hE:=GS w
   have hS1:=hS.below ((Below.refl w.heap.size w).alloc (Nat.le_refl _) (.cells #[] 5)) (Nat.le_refl _)
   go_enter Tryz.func25,Tryz.ntmps25
   go_wp2_with (first| (at_builtin;refine jy rfl (.tmp 5) (.tmp 6) rfl w.heap.size _ [] zs rfl hE (some a) cap rfl (fun h=>by cases h) hS1 (by simp;omega) (by simp) ?_;intro v2 w2 hO2 hg2 hd2))
   go_ret
   refine⟨_,rfl,hO2,?_⟩
   exact((Below.refl _ w).alloc (Nat.le_refl _) _).trans (dx hg2 (fun k e=>(hE.block k e).1) (by simp))
theorem DK.src{w:World}{base:Nat}{P:DP}{D:DS}(h:DK w base P D)(o l:Nat)(cap:Nat)(hl:o+l<=D.af.length)(hc:l<=cap)(hm:cap<=maxLen):Src w (some ⟨P.g,o,none⟩) cap ((D.af.drop o).take l):=by
 have el:((D.af.drop o).take l).length=l:=by simp;omega
 refine⟨by omega,hm,P.g,o,fun _=>hlt h.im,fun _=>rfl,fun j hj=>?_⟩
 rw [el]at hj
 rw [cell_of_row _ _ _ _ _ _ h.im,List.getElem?_toArray,List.getElem?_append_left (by rw [aI];omega),fx _ _ _ (by omega)]
 simp [List.getElem?_take,hj]
theorem Kb(w:World)(base:Nat)(P:DP)(D:DS)(h:DK w base P D)(hs:D.af.length<=1048576):
   Calls Tryz.prog 10 #[.pointer (some ⟨P.p,0,none⟩)] w fun e w'=> ∃v,e= .returned v/\Own w' w.heap.size v D.af/\Below w.heap.size w w':=by
 have c4:=h.c4
 have hS:=h.src 0 D.af.length P.gc (by omega) h.gl h.gm
 rw [List.drop_zero,List.take_length]at hS
 have HC:=aa (sw w D.af _ _ hS (fun e=>by cases e) (by omega))
 clear hS
 go_enter Tryz.func10,Tryz.ntmps10
 go_wp2_with (go_at_call 25;refine HC.out.mono ?_;rintro e w1 ⟨v,rfl,hO,hB⟩)
 go_ret
 exact⟨_,rfl,hO,hB⟩
theorem Kc(w:World)(base:Nat)(P:DP)(D:DS)(h:DK w base P D):
   Calls Tryz.prog 62 #[.pointer (some ⟨P.p,0,none⟩)] w fun e w'=>e= .returned (.int .i64 D.ag)/\w=w':=by
 have c:=h.c9
 go_enter Tryz.func62,Tryz.ntmps62
 go_wp2
 go_ret
 exact⟨rfl,rfl⟩
theorem Ke(w:World)(base:Nat)(P:DP)(D:DS)(h:DK w base P D):
   Calls Tryz.prog 56 #[.pointer (some ⟨P.p,0,none⟩)] w fun e w'=>e= .returned (.bool D.power)/\w=w':=by
 have c:=h.c7
 go_enter Tryz.func56,Tryz.ntmps56
 go_wp2
 go_ret
 exact⟨rfl,rfl⟩
def DS.arm(D:DS)(n:Int):DS:=if D.power then{D with armed:=max n 0}else D
theorem OU(w:World)(base:Nat)(P:DP)(D:DS)(h:DK w base P D)(n:Int):
   Calls Tryz.prog 19 #[.pointer (some ⟨P.p,0,none⟩), .int .i64 n] w fun e w'=>e= .returned (.tuple #[])/\DK w' base P (D.arm n)/\Fr P.fp w w':=by
 have c7:=h.c7
 have c8:=h.c8
 have f8:=h.fz 8
 by_cases hp:D.power=true
 · have hd:D.arm n={D with armed:=max n 0}:=by simp [DS.arm,hp]
   have sH:=h.hp
   rw [hd]
   rw [hp]at c7
   clear hd
   by_cases hn:n<0
   · rw [show max n 0=0 by omega]
     have HQ:=aa (h.put (D':={D with armed:=0}) 8 (.int .i64 0) rfl rfl rfl)
     clear hp
     go_enter Tryz.func19,Tryz.ntmps19
     go_wp2
     go_end0
     exact⟨rfl,HQ.out,(Fr.refl _ w).setCell sH _ _⟩
   · rw [show max n 0=n by omega]
     have HQ:=aa (h.put (D':={D with armed:=n}) 8 (.int .i64 n) rfl rfl rfl)
     clear hp
     go_enter Tryz.func19,Tryz.ntmps19
     go_wp2
     go_end0
     exact⟨rfl,HQ.out,(Fr.refl _ w).setCell sH _ _⟩
 · have hd:D.arm n=D:=by simp [DS.arm,hp]
   rw [hd]
   simp only [Bool.not_eq_true]at hp
   rw [hp]at c7
   go_enter Tryz.func19,Tryz.ntmps19
   go_wp2
   go_end0
   exact⟨rfl,h,Fr.refl _ _⟩
def DS.bn(D:DS):DS:=if D.armed=0 then D else if D.armed=1 then{D with armed:=0,power:=false}else{D with armed:=D.armed-1}
def DS.eW(D:DS):Int:=if D.armed=1 then 2 else 0
theorem vU(w:World)(base:Nat)(P:DP)(D:DS)(h:DK w base P D)(ha:0<=D.armed/\D.armed<=9223372036854775807):
   Calls Tryz.prog 83 #[.pointer (some ⟨P.p,0,none⟩)] w fun e w'=>e= .returned (.int .i64 D.eW)/\DK w' base P D.bn/\Fr P.fp w w':=by
 have c7:=h.c7
 have c8:=h.c8
 have f8:=h.fz 8
 have f7:=h.fz 7
 by_cases h0:D.armed=0
 · have e1:D.eW=0:=by simp [DS.eW,h0]
   have e2:D.bn=D:=by simp [DS.bn,h0]
   rw [e1,e2]
   rw [h0]at c8
   clear h0 e1 e2
   go_enter Tryz.func83,Tryz.ntmps83
   go_wp2
   go_ret
   exact⟨rfl,h,Fr.refl _ _⟩
 · have hq:=h.put (D':={D with armed:=D.armed-1}) 8 (.int .i64 (D.armed-1)) rfl rfl rfl
   have hf:=(Fr.refl P.fp w).setCell h.hp 8 (.int .i64 (D.armed-1))
   by_cases h1:D.armed=1
   · have e1:D.eW=2:=by simp [DS.eW,h1]
     have e2:D.bn={D with armed:=0,power:=false}:=by simp [DS.bn,h1]
     rw [e1,e2]
     rw [h1]at c8 hq hf
     have q8:=hq.c8
     have q7:=hq.c7
     have g7:=hq.fz 7
     have HQ:=aa (hq.put (D':={D with armed:=0,power:=false}) 7 (.bool false) rfl rfl rfl)
     have HF:=aa (hf.setCell h.hp 7 (.bool false))
     clear hq hf h1 e1 e2 h0 ha
     simp only at q8 q7
     rw [show(1:Int)-1=0 from rfl]at*
     go_enter Tryz.func83,Tryz.ntmps83
     go_wp2
     go_ret
     exact⟨rfl,HQ.out,HF.out⟩
   · have e1:D.eW=0:=by simp [DS.eW,h1]
     have e2:D.bn={D with armed:=D.armed-1}:=by simp [DS.bn,h0,h1]
     rw [e1,e2]
     have q8:=hq.c8
     have HQ:=aa hq
     have HF:=aa hf
     clear hq hf e1 e2
     simp only at q8
     have i1:1<D.armed:=by omega
     generalize D.armed=a at*
     have i2:(a==0)=false:=by simp;omega
     clear h0 h1
     go_enter Tryz.func83,Tryz.ntmps83
     go_wp2
     go_ret
     exact⟨rfl,HQ.out,HF.out⟩
theorem keyed3:Maps.Keyed Tryz.prog 3:=Maps.int_keyed Tryz.underlying3
theorem uR{P:Program}{w:World}{ops:Array Oper}{rest:List Oper}{o:Oper}{a:Act}{Q:Exit->Act->World->Prop}(hg:o.guard=none)(m:Operand)(t:TypeId)(hop:o.op=Op.call {callee:=Callee.builtin Builtin.clear,args:= #[m],argTypes:= #[t]})
   (k e:TypeId) (ht:P.underlying t=some (.map k e)) (R:Value->Option (DataW Unit×List MemPlace)) (b n:Nat) (D:DataW Unit) (hm:a.eval m= .map (some b)) (hown:w.ownsMap P k R b n D)
   (hK: ∀w',w'.ownsMap P k R b 0 (.map [])->w.grownBy w' (some b)->wpList P ops Q rest (a.put o.dst (.tuple #[])) w'):
   wpList P ops Q (o::rest) a w:=by
 obtain⟨es,clock,hb,F,_,_⟩:=hown
 refine wpList_plain hg fun K' hK'=>?_
 unfold Oper.wp
 simp [execOp,hop,resolve,invoke,builtin,hm,Builtin.clear_,run_underlying ht,MapKept.run_getObj_map hb,MapKept.run_setObj_map _ hb,Result.andThen]
 have hs:=MapKept.heap_set (o':= .map #[] clock) hb
 exact hK' _ _ (hK _ ⟨#[],clock,hs.1,⟨by simp,MapKept.stamped_empty clock,by simp⟩,Nat.le_refl _,rfl⟩ ⟨rfl,rfl,rfl,by simp,fun i _ hi=>hs.2 i (fun e=>hi (by rw [e]))⟩)
theorem nt(w:World)(base t k:Nat):w.ownsRow base t k (.slice none 0 0) 0 []:=⟨by simp,Or.inl ⟨rfl,rfl⟩⟩
theorem DK.drop{w w2:World}{base:Nat}{P:DP}{D:DS}(h:DK w base P D)(hm:w2.ownsMap (H:=Unit) Tryz.prog 3 (plainElem Tryz.prog 3) P.m 0 (.map []))(hg:(w.setCell ⟨P.p,5,none⟩ (.slice none 0 0)).grownBy w2 (some P.m)):
   w2.cell? ⟨P.p,3,none⟩=some (.int .i64 D.ops.length)/\w2.frozen? ⟨P.p,3,none⟩=false/\DK (w2.setCell ⟨P.p,3,none⟩ (.int .i64 0)) base {P with ov:= .slice none 0 0,M:= .map []} {D with ops:= []}/\Fr P.fp w (w2.setCell ⟨P.p,3,none⟩ (.int .i64 0)):=by
 have h1:(w.setCell ⟨P.p,5,none⟩ (.slice none 0 0)).heap[P.p]? =some (.cells ((kO P D).setIfInBounds 5 (.slice none 0 0)) 79 (0,0)):=heap_setCell_same _ _ _ _ _ _ h.cell
 have h2:=(hg.block P.p (hlt h1) (fun e=>h.pm (Option.some.inj e))).trans h1
 have hne: ∀i,i≠P.p->i≠P.m->i<w.heap.size->(w2.setCell ⟨P.p,3,none⟩ (.int .i64 0)).heap[i]? =w.heap[i]? :=fun i a b c=>by
   rw [heap_setCell_other w2 _ i _ a,hg.block i (by rw [World.size_setCell];exact c) (fun e=>b (Option.some.inj e)),heap_setCell_other w _ i _ a]
 refine⟨by rw [cell_of_row _ _ _ _ _ _ h2];rfl,frozen_of_row _ _ _ _ _ h2,⟨?_,?_,h.gl,h.gm,nt _ _ _ _,?_,py.nil,h.bp,h.bg,h.bm⟩,⟨hg.os,hg.tape,hg.output,?_,?_⟩⟩
 · rw [heap_setCell_same _ _ _ _ _ _ h2];rfl
 · rw [hne _ h.pg.symm h.OS (hlt h.im)];exact h.im
 · exact iB hm (heap_setCell_other w2 _ _ _ h.pm.symm)
 · rw [World.size_setCell];have:=hg.size;rwa [World.size_setCell]at this
 · intro k hk hn
   exact hne k (fun e=>hn ((P.mem k).2 (Or.inl e))) (fun e=>hn ((P.mem k).2 (Or.inr (Or.inr (Or.inl e))))) hk
theorem uv(w:World)(base:Nat)(P:DP)(D:DS)(h:DK w base P D):
   Calls Tryz.prog 44 #[.pointer (some ⟨P.p,0,none⟩)] w fun e w'=>e= .returned (.tuple #[])/\DK w' base {P with ov:= .slice none 0 0,M:= .map []} {D with ops:= []}/\Fr P.fp w w':=by
 have c5:=h.c5
 have f5:=h.fz 5
 have c6:=h.c6
 have hm:=h.mp.setCell (a:=⟨P.p,5,none⟩) h.pm.symm (.slice none 0 0)
 have HD:=aa (fun w2 a b=>h.drop (w2:=w2) a b)
 have hmp:P.m≠P.p:=h.pm.symm
 clear h
 obtain⟨p,g,m,gc,ov,rs,M⟩:=P
 simp only at*
 go_enter Tryz.func44,Tryz.ntmps44
 go_wp2_with (refine uR rfl (.tmp 8) 77 rfl 3 3 Tryz.underlying77 _ m _ _ rfl hm ?_;intro w2 hm2 hg2;obtain⟨c3,f3,hD,hF⟩:=HD.out w2 hm2 hg2;clear HD)
 go_end0
 exact⟨rfl,hD,hF⟩
theorem mW{P:Program}{fn:Func}{p:Tmp}{ty:TypeId}(h:fn.results= #[.cell p ty])(tmps:Array Value)(w:World)(g:Nat)(t:TypeId)(cs:Array Value)(fr:Nat×Nat)(d:TypeDesc)
   (hp:tmps.getD p undef= .pointer (some ⟨g,0,none⟩)) (hg:w.heap[g]? =some (.cells cs t fr))
   (hu:P.underlying ty=some d) (hd:(match d with| .struct _| .array _ _=>true| _=>false)=true) (hi:(P.info? ty).map (·.size)=some cs.size):
   (results fn tmps).run P w= .ok (.agg cs) w:=by
 have si:tmps[p]?.getD undef= .pointer (some ⟨g,0,none⟩):=by simpa using hp
 simp [results,h,si,asAddr,run_loadVar_row w g t ty cs fr d hg hu hd hi]
theorem GU(w:World)(base:Nat)(P:DP)(D:DS)(h:DK w base P D):
   Calls Tryz.prog 23 #[.pointer (some ⟨P.p,0,none⟩)] w fun e w'=>e= .returned (.agg #[.int .i64 D.reads, .int .i64 D.writes, .int .i64 D.aA, .int .i64 D.ops.length])/\Below w.heap.size w w':=by
 have c0:=h.c0
 have c1:=h.c1
 have c2:=h.c2
 have c3:=h.c3
 have XL:=hlt h.cell
 go_enter Tryz.func23,Tryz.ntmps23
 go_wp2
 refine bodyPost_ret (mW Tryz.results23 _ _ w.heap.size 44 _ _ _ rfl (aF w _) Tryz.underlying44 rfl (by kernel_rfl)) rfl ?_
 exact⟨rfl,(Below.refl _ w).alloc (Nat.le_refl _) _⟩
theorem OX(sp:Option Addr)(n c m:Nat)(w:World):
   (Instr.build 79 #[(1, .slice sp n c),(3, .map (some m)),(4, .bool true)]).run Tryz.prog w= .ok (.agg #[.int .i64 0, .int .i64 0, .int .i64 0, .int .i64 0, .slice sp n c, .slice none 0 0, .map (some m), .bool true, .int .i64 0, .int .i64 0]) w:=by kernel_rfl
def dy(af:List Int):DS:=⟨af,[],true,0,0,0,0,0⟩
theorem xV{af:List Int}{n:Nat}(h1:3<=n)(h2:n<=4096)(hi:af.length=256*n)(hb:jC af):cC (dy af):=
 ⟨⟨n,h1,h2,hi,fun o ho=>by cases ho⟩,hb,by simp [dy],by simp [dy],by simp [dy],by simp [dy],by simp [dy],by simp [dy]⟩
theorem Di(w:World)(base g c:Nat)(af:List Int)(rest:List Value)(hI:w.heap[g]? =some (.cells (ints .u8 af++rest).toArray 5 (0,0)))(hc:af.length<=c)(hm:c<=maxLen)(hg:base<=g)(hb:base<=w.heap.size):
   Calls Tryz.prog 55 #[.slice (some ⟨g,0,none⟩) af.length c] w fun e w'=>e= .returned (.pointer (some ⟨w.heap.size+1,0,none⟩))/\DK w' base ⟨w.heap.size+1,g,w.heap.size,c, .slice none 0 0,rest, .map []⟩ (dy af)/\Below w.heap.size w w':=by
 have AK:= @run_makeMap Tryz.prog
 have OY:=OX
 go_enter Tryz.func55,Tryz.ntmps55
 go_wp2
 go_ret
 have hB1:Below w.heap.size w (w.alloc (.map #[] 0)):=(Below.refl _ w).alloc (Nat.le_refl _) _
 have hB2: ∀o,Below (w.alloc (.map #[] 0)).heap.size (w.alloc (.map #[] 0)) ((w.alloc (.map #[] 0)).alloc o):=fun o=>(Below.refl _ _).alloc (Nat.le_refl _) o
 have hs:(w.alloc (.map #[] 0)).heap.size=w.heap.size+1:=by simp
 refine⟨rfl,⟨?_,?_,hc,hm,nt _ _ _ _,?_,py.nil,by show base<=w.heap.size+1;omega,hg,hb⟩,hB1.alloc (by rw [hs];omega) _⟩
 · show _=some (Obj.cells #[_,_,_,_,_,_,_,_,_,_] _ _)
   have:=aF (w.alloc (.map #[] 0)) (.cells #[.int .i64 0, .int .i64 0, .int .i64 0, .int .i64 0, .slice (some ⟨g,0,none⟩) af.length c, .slice none 0 0, .map (some w.heap.size), .bool true, .int .i64 0, .int .i64 0] 79)
   rw [hs]at this
   exact this
 · exact hold (hold hI)
 · exact iB (World.ownsMap_made w Tryz.prog 3 _) ((hB2 _).block w.heap.size (by rw [hs];omega))
theorem Nv(w:World)(base g c:Nat)(af:List Int)(hl:af.length=c)(hI:w.heap[g]? =some (.cells (ints .u8 af).toArray 5 (0,0)))(hc:0<=c)(hm:c<=maxLen)(hg:base<=g)(hb:base<=w.heap.size):
   Calls Tryz.prog 55 #[.slice (some ⟨g,0,none⟩) c c] w fun e w'=>e= .returned (.pointer (some ⟨w.heap.size+1,0,none⟩))/\DK w' base ⟨w.heap.size+1,g,w.heap.size,c, .slice none 0 0,[], .map []⟩ (dy af)/\Below w.heap.size w w':=by
 have:=Di w base g c af [] (by rw [List.append_nil];exact hI) (by omega) hm hg hb
 rw [hl]at this
 exact this
theorem xW(n:Nat):jC (List.replicate n 0):=fun x hx=>by simp at hx;omega
theorem GV(w:World)(n:Nat)(h3:3<=n)(h4:n<=4096):
   Calls Tryz.prog 26 #[.int .i64 n] w fun e w'=> ∃p F,e= .returned (.tuple #[.pointer (some ⟨p,0,none⟩), .int .i64 0])/\DA w' w.heap.size F p (dy (List.replicate (256*n) 0))/\Below w.heap.size w w':=by
 have HP:=aa (AH w n)
 have he:decide (3<=(n:Int)/\(n:Int)<=4096)=true:=decide_eq_true ⟨by omega,by omega⟩
 have HE:=aa he
 clear he
 obtain⟨i5,hi5,hz5,hs5,hy5⟩:=Tryz.info5
 have HI:=aa hi5
 have K1:=aa (show i5.bytes*(n*256)<=281474976710656 by rw [hy5];omega)
 have K2:=aa (show n*256<=maxLen by unfold maxLen;omega)
 have i0:(n:Int)<=4096:=by omega
 clear hi5
 go_enter Tryz.func26,Tryz.ntmps26
 go_wp2_with (first
   | (go_at_call 54;refine HP.out.mono ?_;rintro e w0 ⟨rfl,rfl⟩;rw [HE.out])
   | (refine wpList_make_full _ rfl _ _ 31 rfl w.heap.size 5 i5 (.int .u8 0) 1 Tryz.underlying31 HI.out hz5 hs5 .i64 .i64 _ _ (n*256) rfl rfl (by push_cast;rfl) (by push_cast;rfl) K1.out K2.out (Nat.le_refl _) ?_;intro w1 hO1 hg1;have hB1:=dx hg1 (fun k hk=>by cases hk) (Nat.le_refl w.heap.size);have hr1:=gw hO1;clear hg1 hO1)
   | (go_at_call 55;refine(Nv w1 w.heap.size w.heap.size (n*256) (dB [] (n*256)) (by simp [dB]) hr1 (by omega) (by unfold maxLen;omega) (Nat.le_refl _) hB1.size).mono ?_;rintro e w2 ⟨rfl,hK,hB2⟩))
 go_ret2
 have hz:dB [] (n*256)=List.replicate (256*n) 0:=by simp [dB,Nat.mul_comm]
 rw [hz]at hK
 exact⟨_,_,rfl,⟨_,rfl,rfl,hK,xV h3 h4 (by simp) (xW _)⟩,hB1.trans (hB2.mono hB1.size)⟩
theorem foldl_set: ∀(ks:List Value) (n:Nat) (cur:List Value),n+ks.length=cur.length->(ks.zipIdx n).foldl (fun(cs:Array Value) (p:Value×Nat)=>cs.setIfInBounds (0+p.2) p.1) cur.toArray=(cur.take n++ks).toArray
 | [],n,cur,h=>by simp at h;simp [List.take_of_length_le (Nat.le_of_eq h.symm)]
 | k::ks,n,cur,h=>by
   have h:n+(ks.length+1)=cur.length:=by simpa using h
   rw [List.zipIdx_cons,List.foldl_cons]
   show(ks.zipIdx (n+1)).foldl _ (cur.toArray.setIfInBounds (0+n) k)=_
   rw [Nat.zero_add,List.setIfInBounds_toArray,foldl_set ks (n+1) (cur.set n k) (by simp;omega)]
   rw [List.take_succ_eq_append_getElem (by simp;omega),List.getElem_set_self,List.take_set_of_le (Nat.le_refl _),List.append_assoc];rfl
theorem AL(size:Nat)(zs:Array Value)(ks:List Value)(h1:ks.length=size)(h2:zs.size=size):Instr.fill (fun i=>some (i*size,size)) zs [(0,Value.agg ks.toArray)]=some ks.toArray:=by
 unfold Instr.fill
 have hc:(Value.agg ks.toArray).cells=ks.toArray:=rfl
 simp only [hc,Nat.zero_mul,List.size_toArray,h1,h2,Nat.zero_add]
 rw [if_neg (by simp)]
 unfold Instr.fill
 have e:=foldl_set ks 0 zs.toList (by simp [h1,h2])
 simp only [Nat.zero_add]at e
 simp only [List.take_zero,List.nil_append,Array.toArray_toList]at e
 rw [<-Array.foldl_toList,Array.toList_zipIdx]
 exact congrArg some e
theorem Pb:(Tryz.prog.info? 103).map (fun i=>(i.zero.map fun z=>z.cells.size,i.size,i.bytes))=some (some 257,257,264):=by kernel_rfl
theorem Mg: ∃i z,Tryz.prog.info? 103=some i/\i.zero=some z/\z.cells.size=257/\i.size=257/\i.bytes=264:=by
 have h:=Pb
 cases hq:Tryz.prog.info? 103 with
 | none=>rw [hq]at h;cases h
 | some i=>
   rw [hq]at h
   simp only [Option.map_some,Option.some.injEq,Prod.mk.injEq]at h
   obtain⟨h1,h2,h3⟩:=h
   cases hz:i.zero with
   | none=>rw [hz]at h1;cases h1
   | some z=>
     rw [hz]at h1
     exact⟨i,z,rfl,hz,by simpa using h1,h2,h3⟩
theorem Nw(ks:List Value)(hk:ks.length=257)(w:World):
   (Instr.buildSlice 76 1 #[(0, .agg ks.toArray)]).run Tryz.prog w= .ok (.slice (some ⟨w.heap.size,0,none⟩) 1 1) (w.alloc (.cells ks.toArray 103)):=by
 obtain⟨i,z,hi,hz,Vg,hs,hb⟩:=Mg
 exact run_buildSlice w 76 103 1 _ ks.toArray i z Tryz.underlying76 hi hz (by rw [hs];decide) (by rw [hs];decide) (by rw [hs];exact AL 257 _ ks hk (by simp))
theorem uw{w:World}{ops:Array Oper}{o:Oper}{a:Act}{K:Act->World->Prop}{Q:Exit->Act->World->Prop}{E:Prop}(hw:Region.wanted o (yielded ops a.tmps)=true)(x:Operand)(ho:o.op= .buildSlice 76 1 #[(0,x)])
   (ks:List Value) (hk:ks.length=257) (hx:a.eval x= .agg ks.toArray) (h:K (a.put o.dst (.slice (some ⟨w.heap.size,0,none⟩) 1 1)) (w.alloc (.cells ks.toArray 103))):
   if Region.wanted o (yielded ops a.tmps)=true then Oper.wp Tryz.prog o a w K Q else E:=by
 rw [if_pos hw]
 unfold Oper.wp execOp
 simp only [ho,List.map_toArray,List.map_cons,List.map_nil,hx,Sem.run_bind,Nw ks hk w,Result.andThen_ok,Sem.run_pure]
 exact h
theorem vV{w:World}{ops:Array Oper}{o:Oper}{a:Act}{K:Act->World->Prop}{Q:Exit->Act->World->Prop}{E:Prop}(hgd:o.guard=none)(s x:Operand)
   (ho:o.op= .call {callee:= .builtin .append,args:= #[s,x],argTypes:= #[76,76]})
   (base:Nat) (v:Value) (n:Nat) (xs:List Value) (ks:List Value) (hs:a.eval s=v) (hown:w.ownsRow base 103 257 v n xs) (hx:a.eval x= .slice (some ⟨w.heap.size,0,none⟩) 1 1) (hl:ks.length=257) (h1: ∀y∈ks,y.oneCell'=true)
   (hlen:n+1<=400000000001) (hbase:base<=w.heap.size) (t:TypeId) (fr:Nat×Nat)
   (h: ∀v' w',w'.ownsRow base 103 257 v' (n+1) (xs++ks)->(w.alloc (.cells ks.toArray t fr)).grownBy w' v.ownBlock->(v'.ownBlock=v.ownBlock\/v'.ownBlock=some (w.heap.size+1))->K (a.put o.dst v') w'):
   if Region.wanted o (yielded ops a.tmps)=true then Oper.wp Tryz.prog o a (w.alloc (.cells ks.toArray t fr)) K Q else E:=by
 have hw:Region.wanted o (yielded ops a.tmps)=true:=by simp [Region.wanted,hgd]
 rw [if_pos hw]
 obtain⟨i5,z,hi5,hz5,hc5,hs5,hy5⟩:=Mg
 have hown':(w.alloc (.cells ks.toArray t fr)).ownsRow base 103 257 v n xs:=cZ hown fun k hk=>by
   obtain⟨_,cur,hh⟩:=aH hown k hk
   rw [hh];exact hold hh
 obtain⟨v',w',hr,q1,q2,_,q4⟩:=run_append_own_at (P:=Tryz.prog) (w.alloc (.cells ks.toArray t fr)) base 76 o.type 103 i5 z 257 264 Tryz.underlying76 hi5 hz5 hs5 hy5 hc5 (by decide) v n _ hown' ⟨w.heap.size,0,none⟩ 1 1 ks (by omega) (by
   intro j u hu
   rw [Addr.add_mid,Nat.zero_add,cell_of_row _ _ _ _ _ _ (aF w _)]
   simpa using hu) h1 (by unfold maxLen;omega) (by omega) (by simp;omega)
 unfold Oper.wp execOp
 simp only [ho,resolve,invoke,builtin,Sem.run_bind,Sem.run_pure,Result.andThen_ok,List.map_toArray,List.map_cons,List.map_nil,hs,hx,hr]
 refine h v' w' q1 q2 ?_
 rcases q4 with e| e
 · exact Or.inl e
 · exact Or.inr (by rw [e];simp)
def zW(q:Int):List Value:= .int .i64 q::ints .u8 (List.replicate 256 0)
theorem pU(q:Int):(zW q).length=257:=by rw [zW,List.length_cons,aI,List.length_replicate]
theorem Pc(q:Int): ∀v∈zW q,v.oneCell'=true:=by
 intro v hv
 rcases List.mem_cons.1 hv with rfl| h
 · rfl
 · exact dR _ _ v h
theorem Fi(q:Int)(w:World):(Instr.build 103 #[(0, .int .i64 q)]).run Tryz.prog w= .ok (.agg (zW q).toArray) w:=by kernel_rfl
theorem Fj(a:Act)(o:Oper)(ho:o.op= .alloc 103)(w:World):(execOp a.eval o).run Tryz.prog w= .ok (.value (.pointer (some ⟨w.heap.size,0,none⟩))) (w.alloc (.cells (zW 0).toArray 103)):=by
 unfold execOp
 rw [ho]
 kernel_rfl
theorem jX{w:World}{ops:Array Oper}{rest:List Oper}{o:Oper}{a:Act}{Q:Exit->Act->World->Prop}(hg:o.guard=none)(ho:o.op= .alloc 103)(Z:List Value)(hZ:Z=zW 0)
   (h:wpList Tryz.prog ops Q rest (a.put o.dst (.pointer (some ⟨w.heap.size,0,none⟩))) (w.alloc (.cells Z.toArray 103))):wpList Tryz.prog ops Q (o::rest) a w:=by
 subst hZ
 refine wpList_plain hg fun K hK=>?_
 unfold Oper.wp
 rw [Fj a o ho w]
 exact hK _ _ h
theorem zZ{w:World}{ops:Array Oper}{rest:List Oper}{o:Oper}{a:Act}{Q:Exit->Act->World->Prop}(hg:o.guard=none)(x:Operand)(ho:o.op= .build 103 #[(0,x)])(q:Int)(hx:a.eval x= .int .i64 q)(Z:List Value)(hZ:Z=zW q)
   (h:wpList Tryz.prog ops Q rest (a.put o.dst (.agg Z.toArray)) w):wpList Tryz.prog ops Q (o::rest) a w:=by
 subst hZ
 refine wpList_plain hg fun K hK=>?_
 unfold Oper.wp execOp
 simp only [ho,List.map_toArray,List.map_cons,List.map_nil,hx,Sem.run_bind,Fi q w,Result.andThen_ok,Sem.run_pure]
 exact hK _ _ h
theorem tT:(Tryz.prog.info? 103).map (·.size)=some 257:=by kernel_rfl
theorem ei{w:World}{base t k n:Nat}{v:Value}{cs:List Value}(h:w.ownsRow base t k v n cs): ∃sp cap,v= .slice sp n cap:=by
 rcases h.2 with⟨rfl,rfl⟩| ⟨g,cap,cur,rfl,_⟩
 · exact⟨none,0,rfl⟩
 · exact⟨_,_,rfl⟩
theorem Fk{w:World}{ops:Array Oper}{o:Oper}{a:Act}{K:Act->World->Prop}{Q:Exit->Act->World->Prop}{E:Prop}(hgd:o.guard=none)(m x v:Operand)(hop:o.op=Op.mapUpdate 77 m x v)
   (b n:Nat) (M:DataW Unit) (hm:a.eval m= .map (some b)) (hown:w.ownsMap Tryz.prog 3 (plainElem Tryz.prog 3) b n M) (hn:n<maxLen) (q:Nat) (hx:a.eval x= .int .i64 q) (hq:q<4096) (l:Nat) (hv:a.eval v= .int .i64 l) (hl:l<=400000000000)
   (h: ∀w',w'.ownsMap Tryz.prog 3 (plainElem Tryz.prog 3) b (n+1) (M.put (.int .i64 (q:Nat)) (.lit (.int .i64 (l:Nat))))->w.grownBy w' (some b)->K (a.put o.dst undef) w'):
   if Region.wanted o (yielded ops a.tmps)=true then Oper.wp Tryz.prog o a w K Q else E:=by
 have hw:Region.wanted o (yielded ops a.tmps)=true:=by simp [Region.wanted,hgd]
 rw [if_pos hw]
 obtain⟨w',hrun,r1,r2⟩:=hown.update keyed3 Tryz.underlying77 hn (Maps.keyOf_int_mk Tryz.underlying3 (Mf q hq)) (plainElem_int Tryz.underlying3 (WalkArith.wf_i64 (n:=(l:Int)) (by omega)))
 unfold Oper.wp
 simp [execOp,hop,hm,hx,hv,hrun,Result.andThen]
 exact h w' r1 r2
def DP.dK(P:DP)(D:DS)(o:OW)(v:Value):DP:={P with ov:=v,M:=P.M.put (.int .i64 (o.page:Nat)) (.lit (.int .i64 (D.ops.length:Nat)))}
def DS.dK(D:DS)(o:OW):DS:={D with ops:=D.ops++ [o]}
theorem DK.push{w2 w3 w4:World}{base:Nat}{P:DP}{D:DS}(h:DK w2 base P D)(o:OW)(hp:o.page<4096)
   (hm3:w3.ownsMap Tryz.prog 3 (plainElem Tryz.prog 3) P.m (D.ops.length+1) (P.M.put (.int .i64 (o.page:Nat)) (.lit (.int .i64 (D.ops.length:Nat))))) (hg3:w2.grownBy w3 (some P.m)) (c:Obj) {v:Value}
   (hO4:w4.ownsRow base 103 257 v (D.ops.length+1) (D.ops.flatMap bF++bF o)) (hg4:(w3.alloc c).grownBy w4 P.ov.ownBlock) (hd4:v.ownBlock=P.ov.ownBlock\/v.ownBlock=some (w3.heap.size+1)):
   w4.cell? ⟨P.p,5,none⟩=some P.ov/\w4.frozen? ⟨P.p,5,none⟩=false∧
     (w4.setCell ⟨P.p,5,none⟩ v).cell? ⟨P.p,5,none⟩=some v/\(w4.setCell ⟨P.p,5,none⟩ v).cell? ⟨P.p,3,none⟩=some (.int .i64 D.ops.length)/\(w4.setCell ⟨P.p,5,none⟩ v).cell? ⟨P.p,1,none⟩=some (.int .i64 D.writes)/\(∀k,(w4.setCell ⟨P.p,5,none⟩ v).frozen? ⟨P.p,k,none⟩=false)∧
     DK ((w4.setCell ⟨P.p,5,none⟩ v).setCell ⟨P.p,3,none⟩ (.int .i64 (D.ops.length+1:Nat))) base (P.dK D o v) (D.dK o)/\Fr P.fp w2 ((w4.setCell ⟨P.p,5,none⟩ v).setCell ⟨P.p,3,none⟩ (.int .i64 (D.ops.length+1:Nat)))/\Gr w2 P.fp (P.dK D o v).fp:=by
 have a1: ∀i,i≠P.m->P.ov.ownBlock≠some i->i<w2.heap.size->w4.heap[i]? =w2.heap[i]? :=fun i e1 e2 hi=>by
   have h3:=hg3.block i hi (fun e=>e1 (Option.some.inj e))
   have hi3:i<w3.heap.size:=Nat.lt_of_lt_of_le hi hg3.size
   rw [hg4.block i (by simp;omega) (fun e=>e2 e.symm),<-h3]
   show(w3.heap.push _)[i]? =_
   rw [Array.getElem?_push,if_neg (by omega)]
 have hs4:w2.heap.size<=w4.heap.size:=by have:=hg3.size;have:=hg4.size;simp at this;omega
 have p4:w4.heap[P.p]? =some (.cells (kO P D) 79 (0,0)):=(a1 _ h.pm h.po (hlt h.cell)).trans h.cell
 have p5:(w4.setCell ⟨P.p,5,none⟩ v).heap[P.p]? =some (.cells ((kO P D).setIfInBounds 5 v) 79 (0,0)):=heap_setCell_same _ _ _ _ _ _ p4
 have GW:(w4.setCell ⟨P.p,5,none⟩ v).heap[P.p]? =some (.cells ((kO P D).setIfInBounds 5 v) 79 (0,0)):=p5
 have far: ∀i,i≠P.p->((w4.setCell ⟨P.p,5,none⟩ v).setCell ⟨P.p,3,none⟩ (.int .i64 (D.ops.length+1:Nat))).heap[i]? =w4.heap[i]? :=fun i e=>by
   rw [heap_setCell_other _ _ i _ e];exact heap_setCell_other w4 _ i _ e
 have vp:v.ownBlock≠some P.p:=fun e=>by
   obtain⟨_,cur,hh⟩:=aH hO4 _ e;exact cL hh p4 (by decide) rfl
 refine⟨by rw [cell_of_row _ _ _ _ _ _ p4];rfl,frozen_of_row _ _ _ _ _ p4,by rw [cell_of_row _ _ _ _ _ _ GW];rfl,by rw [cell_of_row _ _ _ _ _ _ GW];rfl,by rw [cell_of_row _ _ _ _ _ _ GW];rfl,fun k=>frozen_of_row _ _ _ _ _ GW,⟨?_,?_,h.gl,h.gm,?_,?_,?_,h.bp,h.bg,h.bm⟩,⟨?_,?_,?_,?_,?_⟩,?_⟩
 · refine(heap_setCell_same _ _ _ _ _ _ GW).trans ?_
   simp [kO,DP.dK,DS.dK]
 · refine(far _ h.pg.symm).trans ((a1 _ h.OS h.go (hlt h.im)).trans h.im)
 · have e1:(D.dK o).ops.length=D.ops.length+1:=by simp [DS.dK]
   have e2:(D.dK o).ops.flatMap bF=D.ops.flatMap bF++bF o:=by simp [DS.dK]
   rw [e1,e2]
   exact cZ hO4 fun i e=>far i (fun q=>vp (q▸e))
 · have e1:(D.dK o).ops.length=D.ops.length+1:=by simp [DS.dK]
   rw [e1]
   refine iB hm3 ?_
   show _=w3.heap[P.m]?
   refine(far _ h.pm.symm).trans ?_
   have hi3:=hm3.lt
   rw [hg4.block P.m (by simp;omega) (fun e=>h.mo e.symm)]
   show(w3.heap.push _)[P.m]? =_
   rw [Array.getElem?_push,if_neg (by omega)]
 · exact h.new.snoc o hp
 · exact(hg4.os.trans hg3.os)
 · exact(hg4.tape.trans hg3.tape)
 · exact(hg4.output.trans hg3.output)
 · rw [World.size_setCell];show w2.heap.size<=(w4.setCell ⟨P.p,5,none⟩ v).heap.size;rw [World.size_setCell];exact hs4
 · intro k hk hn
   have n1:k≠P.p:=fun e=>hn ((P.mem k).2 (Or.inl e))
   have n2:k≠P.m:=fun e=>hn ((P.mem k).2 (Or.inr (Or.inr (Or.inl e))))
   have n3:P.ov.ownBlock≠some k:=fun e=>hn ((P.mem k).2 (Or.inr (Or.inr (Or.inr e))))
   exact(far k n1).trans (a1 k n2 n3 hk)
 · intro k hk
   rcases((P.dK D o v).mem k).1 hk with e| e| e| e
   · exact Or.inl ((P.mem k).2 (Or.inl e))
   · exact Or.inl ((P.mem k).2 (Or.inr (Or.inl e)))
   · exact Or.inl ((P.mem k).2 (Or.inr (Or.inr (Or.inl e))))
   · have e:v.ownBlock=some k:=e
     rcases hd4 with q| q
     · exact Or.inl ((P.mem k).2 (Or.inr (Or.inr (Or.inr (q▸e)))))
     · rw [q]at e
       have:=Option.some.inj e
       have:=hg3.size
       exact Or.inr (by omega)
end Go.Proofs.YtpdakmhnnkaafaaGreat

import Derived.Test.YtpdakmhnnkaafaaGreatR01
import Derived.Laws.Cover3
import Derived.Lib.LazyBuf
namespace Go.Proofs.YtpdakmhnnkaafaaGreat
set_option maxRecDepth 100000
set_option maxHeartbeats 40000000
set_option linter.unusedVariables false
set_option linter.unusedSimpArgs false
open Go.RowKit
attribute [local go_sem ↓] Go.wp_at_zero Go.wp_at_succ
theorem Tryz.guard153:Tryz.prog.eqGuardType Tryz.prog.depth 153=false:=by kernel_rfl
theorem eqA4(xs ys:List Int)(ha:xs.length=4)(hb:ys.length=4)(w:World):
   (Op.equalIn 10000 153 (.agg (ints .u8 xs).toArray) (.agg (ints .u8 ys).toArray)).run Tryz.prog w= .ok (decide (xs=ys)) w:=
 rU Tryz.underlying153 Tryz.underlying5 Tryz.size5 .u8 xs ys ha hb w
theorem GC(w:World)(xs ys:List Int)(hb8:aS (xs++ys))(hy:ys.length=4)(sp:Option Addr)(cap:Nat)(hS:Src w sp cap (xs++ys)):
   Calls Tryz.prog 88 #[.slice sp (xs.length+4) cap] w fun e w'=>e= .returned (.bool (decide (jA (gv xs)=ys)))/\Below w.heap.size w w':=by
 obtain⟨hc,hm,b,o,hb,hsp,hsrc⟩:=hS
 have hl:(xs++ys).length=xs.length+4:=by rw [List.length_append,hy]
 rw [hl]at hc hb hsp hsrc
 obtain rfl:=hsp (by omega)
 replace hb:=hb (by omega)
 unfold maxLen at hm
 have i1: ¬((xs.length:Int)+4<4):=by omega
 have i2:(xs.length:Int)+4<=9223372036854775807:=by omega
 have i3:(xs.length:Int)+4-4=(xs.length:Int):=by omega
 go_enter Tryz.func88,Tryz.ntmps88
 have Sc:aS xs:=fun x hx=>hb8 x (List.mem_append_left _ hx)
 have lx:=tO Sc
 obtain⟨y0,y1,y2,y3,rfl⟩: ∃y0 y1 y2 y3,ys= [y0,y1,y2,y3]:=by
   match ys,hy with
   | [y0,y1,y2,y3],_=>exact⟨y0,y1,y2,y3,rfl⟩
 have gj: ∀j,j<4->(xs++ [y0,y1,y2,y3]).getD (xs.length+j) 0= [y0,y1,y2,y3].getD j 0:=fun j hj=>by
   rw [List.getD_eq_getElem?_getD,List.getElem?_append_right (by omega),show xs.length+j-xs.length=j by omega,<-List.getD_eq_getElem?_getD]
 have c0:w.cell? ⟨b,o+xs.length,none⟩=some (.int .u8 y0):=by have:=hsrc (xs.length+0) (by omega);rw [gj 0 (by omega)]at this;exact this
 have c1:w.cell? ⟨b,o+xs.length+1,none⟩=some (.int .u8 y1):=by have:=hsrc (xs.length+1) (by omega);rw [gj 1 (by omega),<-Nat.add_assoc]at this;exact this
 have c2:w.cell? ⟨b,o+xs.length+2,none⟩=some (.int .u8 y2):=by have:=hsrc (xs.length+2) (by omega);rw [gj 2 (by omega),<-Nat.add_assoc]at this;exact this
 have c3:w.cell? ⟨b,o+xs.length+3,none⟩=some (.int .u8 y3):=by have:=hsrc (xs.length+3) (by omega);rw [gj 3 (by omega),<-Nat.add_assoc]at this;exact this
 have hX:Src w (some ⟨b,o,none⟩) cap xs:=⟨by omega,by unfold maxLen;omega,b,o,fun _=>hb,fun _=>rfl,fun j hj=>by
   rw [hsrc j (by omega),List.getD_eq_getElem?_getD,List.getElem?_append_left hj,<-List.getD_eq_getElem?_getD]⟩
 have KX:=aa (fun(w':World) (B:Below w.heap.size w w')=>Ea w' xs Sc (some ⟨b,o,none⟩) cap (hX.below B (Nat.le_refl _)))
 have KB:=aa (fun(w':World)=>GA w' (gv xs) lx)
 have KG:=aa (fun(w':World) (B:Below w.heap.size w w')=>show w'.cell? ⟨b,o+xs.length,none⟩=some (.int .u8 y0)/\w'.cell? ⟨b,o+xs.length+1,none⟩=some (.int .u8 y1)/\w'.cell? ⟨b,o+xs.length+2,none⟩=some (.int .u8 y2)/\w'.cell? ⟨b,o+xs.length+3,none⟩=some (.int .u8 y3)from
   ⟨(B.cell (p:=⟨b,o+xs.length,none⟩) hb).trans c0,(B.cell (p:=⟨b,o+xs.length+1,none⟩) hb).trans c1,(B.cell (p:=⟨b,o+xs.length+2,none⟩) hb).trans c2,(B.cell (p:=⟨b,o+xs.length+3,none⟩) hb).trans c3⟩)
 have q: ∀w',(Op.equalIn 10000 153 (.agg (ints .u8 (jA (gv xs))).toArray) (.agg #[.int .u8 y0, .int .u8 y1, .int .u8 y2, .int .u8 y3])).run Tryz.prog w'= .ok (decide (jA (gv xs)= [y0,y1,y2,y3])) w':=fun w'=>eqA4 (jA (gv xs)) [y0,y1,y2,y3] (pP _) rfl w'
 have g4:=Tryz.guard153
 have hne: ¬(cap=xs.length):=by omega
 have i4:(xs.length:Int)<=(cap:Int):=by omega
 have i5:(xs.length:Int)+4<=(cap:Int):=by omega
 have i6:xs.length<=cap:=by omega
 have hat: ∀w,(Instr.arrayAt 153 (.slice (some ⟨b,o+xs.length,none⟩) 4 (cap-xs.length))).run Tryz.prog w= .ok (.pointer (some ⟨b,o+xs.length,none⟩)) w:=fun w=>run_arrayAt w 153 _ 4 _ 4 (cap-xs.length) Tryz.underlying153 (Nat.le_refl _)
 have i7:(xs.length:Int)<=(xs.length:Int)+4:=by omega
 have i8:(0:Int)<=(xs.length:Int):=by omega
 have i9:xs.length<=xs.length+4:=by omega
 have hne2: ¬(xs.length=cap):=by omega
 have BR:=(Below.refl w.heap.size w).drew
 have sc:=KG.out _ BR
 have R: ∀(Z:Prop) [Decidable Z],True:=fun _ _=>trivial
 generalize hD:decide (jA (gv xs)= [y0,y1,y2,y3])=D at*
 clear hy hsrc hX hl gj hD R
 go_wp2_with fail
 go_region_held3 (fun w'=>w'.cell? ⟨b,o+xs.length,none⟩=some (.int .u8 y0)/\w'.cell? ⟨b,o+xs.length+1,none⟩=some (.int .u8 y1)/\w'.cell? ⟨b,o+xs.length+2,none⟩=some (.int .u8 y2)/\w'.cell? ⟨b,o+xs.length+3,none⟩=some (.int .u8 y3)) (first| exact⟨c0,c1,c2,c3⟩| exact sc| exact sc4| exact sc5| assumption) (first| (go_at_call 105;refine(KX.out _ BR).mono ?_;rintro e w4 ⟨rfl,b4⟩;have B4:=BR.trans (b4.mono BR.size);have sc4:=KG.out _ B4)| (go_at_call 104;refine(KB.out _).mono ?_;rintro e w5 ⟨rfl,b5⟩;have B5:=B4.trans (b5.mono B4.size);have sc5:=KG.out _ B5))
 all_goals go_wp2
 all_goals go_ret
 all_goals exact⟨rfl,B5⟩
end Go.Proofs.YtpdakmhnnkaafaaGreat
namespace Go.Proofs.YtpdakmhnnkaafaaGreat
set_option maxRecDepth 100000
set_option maxHeartbeats 40000000
set_option linter.unusedVariables false
set_option linter.unusedSimpArgs false
theorem split256(r:Nat):r=(256*(r>>>8))^^^(r%256):=by
 apply Nat.eq_of_testBit_eq
 intro i
 have e:256*(r>>>8)=2^8*(r>>>8):=by omega
 have e2:=Nat.testBit_mod_two_pow r 8 i
 rw [show(2:Nat)^8=256 by decide]at e2
 rw [e,Nat.testBit_xor,Nat.testBit_two_pow_mul,e2,Nat.testBit_shiftRight]
 by_cases h:i<8
 · have h2: ¬i>=8:=by omega
   simp [h,h2]
 · have h2:i>=8:=by omega
   simp [h,h2,show 8+(i-8)=i by omega]
theorem GF(m:Nat):eF 8 (256*m)=m:=by
 rw [show 256*m=2*(2*(2*(2*(2*(2*(2*(2*m))))))) by omega]
 simp [eF,yI]
def le:List Int->Nat
 | []=>0
 | y::l=>y.toNat+256*le l
theorem Ng(l:List Int): ∀(h:aS l) r,feed r l=eF (8*l.length) (r^^^le l):=by
 induction l with
 | nil=>intro _ r;simp [feed,le,eF]
 | cons y l ih=>
   intro h r
   have hy:=h y (by simp)
   rw [feed,ih (fun x hx=>h x (by simp [hx])),le]
   have e:y.toNat+256*le l=256*le l^^^y.toNat:=by
     have:=split256 (y.toNat+256*le l)
     rw [Nat.shiftRight_eq_div_pow,show(y.toNat+256*le l)/2^8=le l by omega,show(y.toNat+256*le l)%256=y.toNat by omega]at this
     exact this
   rw [e,show 8*(y::l).length=8+8*l.length by simp;omega,yH]
   congr 1
   conv=>lhs;rw [<-GF (le l)]
   rw [<-rP]
   congr 1
   rw [Nat.xor_assoc,Nat.xor_comm y.toNat]
def CR:Nat:=eF 32 ones
theorem Eb:ones<4294967296:=Nat.lt_succ_self _
theorem JV{a b c:Nat}:a^^^b=c↔c^^^a=b:=by
 constructor
 · intro h;rw [<-h,Nat.xor_comm a b,Nat.xor_assoc,Nat.xor_self,Nat.xor_zero]
 · intro h;rw [<-h,Nat.xor_comm,Nat.xor_assoc,Nat.xor_self,Nat.xor_zero]
theorem xz(o:Nat):o^^^0=o:=Nat.xor_zero o
theorem inv_zero:inv 0=ones:=by rw [inv,xz]
theorem GG(l:List Int):gv l=ones^^^feed ones l:=by
 rw [gv,EO,inv_zero,inv]
theorem yO(xs:List Int)(y0 y1 y2 y3:Int)(hx:aS xs)(hy:aS [y0,y1,y2,y3]):
   feed ones (xs++ [y0,y1,y2,y3])=CR↔gv xs=le [y0,y1,y2,y3]:=by
 have h0:=hy y0 (by simp)
 have h1:=hy y1 (by simp)
 have h2:=hy y2 (by simp)
 have h3:=hy y3 (by simp)
 have hl:le [y0,y1,y2,y3]<4294967296:=by simp only [le];omega
 rw [uo,Ng _ hy,GG]
 have hf:=pO xs hx ones Eb
 generalize feed ones xs=R at*
 generalize le [y0,y1,y2,y3]=V at*
 rw [show 8* [y0,y1,y2,y3].length=32 by rfl]
 rw [<-JV]
 constructor
 · intro h;exact Gu 32 _ _ (pN hf hl) Eb h
 · intro h;rw [h];rfl
def vb(n:Nat):Nat:=eF n 1
end Go.Proofs.YtpdakmhnnkaafaaGreat
namespace Go.Proofs.YtpdakmhnnkaafaaGreat
set_option maxRecDepth 100000
set_option maxHeartbeats 40000000
set_option linter.unusedVariables false
set_option linter.unusedSimpArgs false
open Go.RowKit
attribute [local go_sem ↓] Go.wp_at_zero Go.wp_at_succ
def In(w:World)(g:Nat)(rest:List Value)(os:List Int):Prop:=w.heap[g]? =some (.cells (ints .u8 os++rest).toArray 5 (0,0))
theorem In.cell{w:World}{g:Nat}{rest:List Value}{os:List Int}(h:In w g rest os)(j:Nat)(hj:j<os.length):w.cell? ⟨g,j,none⟩=some (.int .u8 (os.getD j 0)):=by
 rw [cell_of_row _ _ _ _ _ _ h]
 have hg2:=fx .u8 os j hj
 simp only [List.getElem?_toArray]
 rw [List.getElem?_append_left (by rw [aI];exact hj),hg2]
theorem In.set{w:World}{g:Nat}{rest:List Value}{os:List Int}(h:In w g rest os)(j:Nat)(x:Int)(hj:j<os.length):In (w.setCell ⟨g,j,none⟩ (.int .u8 x)) g rest (os.set j x):=by
 unfold In
 rw [setCell_eq_setRow w g _ _ _ _ _ h,setRow_heap _ _ _ _ _ _ h]
 congr 2
 simp only [List.setIfInBounds_toArray]
 rw [List.set_append_left _ _ (by rw [aI];exact hj)]
 simp [ints,List.map_set]
theorem In.src{w:World}{g:Nat}{rest:List Value}{os:List Int}(h:In w g rest os)(cap:Nat)(hc:os.length<=cap)(hm:cap<=maxLen):Src w (some ⟨g,0,none⟩) cap os:=
 ⟨hc,hm,g,0,fun _=>hlt h,fun _=>rfl,fun j hj=>by rw [Nat.zero_add];exact h.cell j hj⟩
theorem fF.setCell{g:Nat}{a b:World}(h:fF g a b)(j:Nat)(v:Value):fF g a (b.setCell ⟨g,j,none⟩ v):=
 ⟨h.os,h.tape,h.output,by rw [World.size_setCell];exact h.size,fun k hk hne=>by rw [heap_setCell_other _ _ _ _ hne];exact h.block k hk hne⟩
theorem Ma(s:Nat)(hs:s<4294967296):le (jA s)=s:=by simp only [jA,le];omega
theorem Ec(zs:List Int)(h:aS zs):feed ones (jL zs)=CR:=by
 have hs:=tO h
 have h1:=Au (gv zs)
 have:=(yO zs _ _ _ _ h h1).2 (Ma _ hs).symm
 exact this
theorem Nh{ys:List Int}(hy:ys.length=4): ∃y0 y1 y2 y3,ys= [y0,y1,y2,y3]:=by
 match ys,hy with
 | [y0,y1,y2,y3],_=>exact⟨y0,y1,y2,y3,rfl⟩
theorem Ni(xs ys:List Int)(h8:aS (xs++ys))(hy:ys.length=4):decide (jA (gv xs)=ys)=decide (feed ones (xs++ys)=CR):=by
 obtain⟨y0,y1,y2,y3,rfl⟩:=Nh hy
 have hx:aS xs:=fun x hx=>h8 x (List.mem_append_left _ hx)
 have GH:aS [y0,y1,y2,y3]:=fun x hx=>h8 x (List.mem_append_right _ hx)
 have hw:=yO xs y0 y1 y2 y3 hx GH
 have hs:=tO hx
 have h0:=GH y0 (by simp)
 have h1:=GH y1 (by simp)
 have h2:=GH y2 (by simp)
 have h3:=GH y3 (by simp)
 rw [decide_eq_decide,hw]
 constructor
 · intro h;rw [<-h,Ma _ hs]
 · intro h
   rw [h]
   simp only [jA,le,List.cons.injEq,and_true]
   omega
theorem xR(w:World)(L:List Int)(h8:aS L)(h4:4<=L.length)(sp:Option Addr)(cap:Nat)(hS:Src w sp cap L):
   Calls Tryz.prog 88 #[.slice sp L.length cap] w fun e w'=>e= .returned (.bool (decide (feed ones L=CR)))/\Below w.heap.size w w':=by
 have e:=List.take_append_drop (L.length-4) L
 have hy:(L.drop (L.length-4)).length=4:=by rw [List.length_drop];omega
 have hl:(L.take (L.length-4)).length+4=L.length:=by rw [List.length_take];omega
 have:=GC w (L.take (L.length-4)) (L.drop (L.length-4)) (by rw [e];exact h8) hy sp cap (by rw [e];exact hS)
 rw [Ni _ _ (by rw [e];exact h8) hy,e,hl]at this
 exact this
end Go.Proofs.YtpdakmhnnkaafaaGreat
namespace Go.Proofs.YtpdakmhnnkaafaaGreat
set_option maxRecDepth 100000
set_option maxHeartbeats 40000000
set_option linter.unusedVariables false
set_option linter.unusedSimpArgs false
open Go.RowKit
def num(v:Int):Nat->List Int
 | 0=> []
 | n+1=>v%256::num (v/256) n
theorem dC(v:Int)(n:Nat):(num v n).length=n:=by
 induction n generalizing v with
 | zero=>rfl
 | succ n ih=>simp [num,ih]
theorem nk(v:Int)(n:Nat):aS (num v n):=by
 induction n generalizing v with
 | zero=>intro x hx;simp [num]at hx
 | succ n ih=>
   intro x hx
   rcases List.mem_cons.1 hx with rfl| h
   · omega
   · exact ih _ x h
theorem JW(v:Int)(hv:0<=v)(n:Nat):num v (n+1)=num v n++ [v/256^n%256]:=by
 induction n generalizing v with
 | zero=>simp [num]
 | succ n ih=>
   rw [num,ih (v/256) (Int.ediv_nonneg hv (by decide)),num,List.cons_append,Int.ediv_ediv_of_nonneg (by decide),Int.pow_succ,Int.mul_comm]
theorem GI(v:Nat)(n:Nat)(h:v<256^n):le (num (v:Int) n)=v:=by
 induction n generalizing v with
 | zero=>simp [num,le];omega
 | succ n ih=>
   have e:(v:Int)/256=((v/256:Nat):Int):=by omega
   rw [num,le,e,ih (v/256) (by rw [Nat.pow_succ]at h;omega)]
   omega
theorem EU(l:List Int)(h:aS l):le l<256^l.length:=by
 induction l with
 | nil=>simp [le]
 | cons y l ih=>
   have h1:=h y (by simp)
   have h2:=ih (fun x hx=>h x (by simp [hx]))
   rw [le,List.length_cons,Nat.pow_succ]
   omega
theorem Nj(l:List Int)(x:Int):le (l++ [x])=le l+x.toNat*256^l.length:=by
 induction l with
 | nil=>simp [le]
 | cons y l ih=>rw [List.cons_append,le,le,ih,List.length_cons,Nat.pow_succ];rw [Nat.mul_add,Nat.mul_comm (256^l.length) 256,Nat.mul_left_comm,Nat.add_assoc]
def gG(k p:Int)(l:List Int):List Int:= [k,(l.length:Int)]++num p 4++l++List.replicate (246-l.length) 0
theorem yP(k p:Int)(l:List Int)(h:l.length<=246):(gG k p l).length=252:=by simp [gG,dC];omega
theorem lG(n:Nat):aS (List.replicate n 0):=fun x hx=>by rw [List.eq_of_mem_replicate hx];decide
theorem fy{a b:List Int}(ha:aS a)(hb:aS b):aS (a++b):=fun x hx=>by
 rcases List.mem_append.1 hx with h| h
 · exact ha x h
 · exact hb x h
theorem qy(k p:Int)(l:List Int)(hk:0<=k/\k<256)(h:l.length<=246)(h8:aS l):aS (gG k p l):=by
 refine fy (fy (fy ?_ (nk _ _)) h8) (lG _)
 intro x hx
 simp at hx
 omega
def cy(k p:Int)(l:List Int):List Int:=jL (gG k p l)
theorem sg(k p:Int)(l:List Int)(h:l.length<=246):(cy k p l).length=256:=by rw [cy,yN,yP k p l h]
def kindOk(k:Int):Bool:=decide (1<=k)&&decide (k<=3)
def eG(p:Int):Bool:=decide (2<=p)&&decide (p<4096)
theorem gQ(k:Int):kindOk k=true↔1<=k/\k<=3:=by simp [kindOk]
theorem lN(p:Int):eG p=true↔2<=p/\p<4096:=by simp [eG]
def bh(p:Int)(r:List Int):Int×List Int×Int:=
 if eG p=false then(0,[],54)else if r.length≠256 then(0,[],53)else if feed ones r≠CR then(0,[],52)
 else if kindOk (r.getD 0 0)=false then(0,[],50)else if 246<r.getD 1 0 then(0,[],51)
 else if(le ((r.drop 2).take 4):Int)≠p then(0,[],54)
 else if(r.drop (6+(r.getD 1 0).toNat)).take (246-(r.getD 1 0).toNat)≠List.replicate (246-(r.getD 1 0).toNat) 0 then(0,[],53)
 else(r.getD 0 0,(r.drop 6).take (r.getD 1 0).toNat,0)
theorem vJ(k p:Int)(l:List Int)(hk:0<=k/\k<256)(h:l.length<=246)(h8:aS l):aS (cy k p l):=vH (qy k p l hk h h8)
theorem CX(k p:Int)(l:List Int)(h:l.length<=246)(s:List Int)(hs:s.length=4):
   (gG k p l++s).getD 0 0=k/\(gG k p l++s).getD 1 0=(l.length:Int)/\((gG k p l++s).drop 2).take 4=num p 4
   /\((gG k p l++s).drop (6+l.length)).take (246-l.length)=List.replicate (246-l.length) 0/\((gG k p l++s).drop 6).take l.length=l:=by
 have h4:=dC p 4
 refine⟨by simp [gG],by simp [gG],?_,?_,?_⟩
 · simp only [gG,List.append_assoc,List.cons_append,List.nil_append]
   rw [List.drop_succ_cons,List.drop_succ_cons,List.drop_zero,List.take_left' h4]
 · simp only [gG]
   rw [show(([k,(l.length:Int)]++num p 4++l++List.replicate (246-l.length) 0)++s)=(([k,(l.length:Int)]++num p 4++l)++(List.replicate (246-l.length) 0++s)) by simp [List.append_assoc]]
   rw [List.drop_left' (by simp [h4];omega),List.take_left' (by simp)]
 · simp only [gG]
   rw [show(([k,(l.length:Int)]++num p 4++l++List.replicate (246-l.length) 0)++s)=(([k,(l.length:Int)]++num p 4)++(l++(List.replicate (246-l.length) 0++s))) by simp [List.append_assoc]]
   rw [List.drop_left' (by simp [h4]),List.take_left' rfl]
theorem CY(k p q:Int)(l:List Int)(hk:kindOk k=true)(hp:eG p=true)(h:l.length<=246)(h8:aS l):
   bh q (cy k p l)=if q=p then(k,l,0)else(0,[],54):=by
 have hk':=(gQ k).1 hk
 have si:=(lN p).1 hp
 obtain⟨a1,a2,a3,a4,a5⟩:=CX k p l h _ (pP (gv (gG k p l)))
 have hC:=Ec (gG k p l) (qy k p l (by omega) h h8)
 have hlen:=sg k p l h
 have hle:(le (num p 4):Int)=p:=by
   obtain⟨n,rfl⟩:=Int.eq_ofNat_of_zero_le (show 0<=p by omega)
   rw [GI n 4 (by omega)]
 unfold bh
 by_cases hq:eG q=true
 · rw [if_neg (by simp [hq]),if_neg (by simp [hlen])]
   unfold cy jL at*
   rw [if_neg (by simp [hC]),a1,a2,if_neg (by simp [hk]),if_neg (by omega),a3,hle,Int.toNat_natCast,a4,a5]
   by_cases e:q=p
   · subst e;simp
   · rw [if_pos (fun h=>e h.symm),if_neg e]
 · have:eG q=false:=by simpa using hq
   rw [if_pos this,if_neg (fun e=>by rw [e,hp]at this;cases this)]
theorem EW(p:Int)(r:List Int)(hp:eG p=true)(h:r.length=256)(hC:feed ones r≠CR):bh p r=(0,[],52):=by
 unfold bh
 rw [if_neg (by simp [hp]),if_neg (by simp [h]),if_pos hC]
structure aD where
 wd:Int
 ge:Int
 ma:Int
 hd:Int
 pg:Int
 deriving DecidableEq
def sup0:aD:=⟨0,0,0,0,0⟩
def aJ(s:aD):Bool:=decide (1<=s.wd/\s.wd<=32/\0<=s.ge/\s.ge<=1099511627776/\3<=s.pg/\s.pg<=4096/\2<=s.ma/\s.ma<=s.pg/\(s.hd=0\/(2<=s.hd/\s.hd<s.ma)))
theorem dg(s:aD):aJ s=true↔1<=s.wd/\s.wd<=32/\0<=s.ge/\s.ge<=1099511627776/\3<=s.pg/\s.pg<=4096/\2<=s.ma/\s.ma<=s.pg/\(s.hd=0\/(2<=s.hd/\s.hd<s.ma)):=by simp [aJ]
def mU(s:aD):List Int:= [76,68,71,49,s.wd,0,0,0]++num s.ge 8++num s.ma 4++num s.hd 4++num s.pg 4++List.replicate 32 0
theorem yQ(s:aD):(mU s).length=60:=by simp [mU,dC]
theorem qz(s:aD)(h:aJ s=true):aS (mU s):=by
 have h:=(dg s).1 h
 refine fy (fy (fy (fy (fy ?_ (nk _ _)) (nk _ _)) (nk _ _)) (nk _ _)) (lG _)
 intro x hx
 simp at hx
 omega
def dv(s:aD):List Int:=jL (mU s)
theorem eJ(s:aD):(dv s).length=64:=by rw [dv,yN,yQ]
theorem lW(s:aD)(h:aJ s=true):aS (dv s):=vH (qz s h)
def gR(r:List Int):aD:=⟨r.getD 4 0,IntKind.i64.wrap (le ((r.drop 8).take 8)),le ((r.drop 16).take 4),le ((r.drop 20).take 4),le ((r.drop 24).take 4)⟩
def pQ(s:aD):List Int×Int:=if aJ s=true then(dv s++List.replicate 192 0,0)else([],53)
def bq(r:List Int):aD×Int:=
 if r.length≠256 then(sup0,53)else if feed ones (r.take 64)≠CR then(sup0,52)
 else if aJ (gR (r.take 64))=false\/dv (gR (r.take 64))≠r.take 64 then(sup0,53)else(gR (r.take 64),0)
theorem split60(l s:List Int)(a b c d:List Int)(z:List Int)(h0:l.length=8)(ha:a.length=8)(hb:b.length=4)(hc:c.length=4)(hd:d.length=4):
   ((l++a++b++c++d++z++s).drop 8).take 8=a/\((l++a++b++c++d++z++s).drop 16).take 4=b/\((l++a++b++c++d++z++s).drop 20).take 4=c/\((l++a++b++c++d++z++s).drop 24).take 4=d:=by
 refine⟨?_,?_,?_,?_⟩
 · rw [show l++a++b++c++d++z++s=l++(a++(b++(c++(d++(z++s))))) by simp [List.append_assoc],List.drop_left' h0,List.take_left' ha]
 · rw [show l++a++b++c++d++z++s=(l++a)++(b++(c++(d++(z++s)))) by simp [List.append_assoc],List.drop_left' (by simp [h0,ha]),List.take_left' hb]
 · rw [show l++a++b++c++d++z++s=(l++a++b)++(c++(d++(z++s))) by simp [List.append_assoc],List.drop_left' (by simp [h0,ha,hb]),List.take_left' hc]
 · rw [show l++a++b++c++d++z++s=(l++a++b++c)++(d++(z++s)) by simp [List.append_assoc],List.drop_left' (by simp [h0,ha,hb,hc]),List.take_left' hd]
theorem mV(v:Int)(n:Nat)(h0:0<=v)(h:v<((256^n:Nat):Int)):(le (num v n):Int)=v:=by
 obtain⟨m,rfl⟩:=Int.eq_ofNat_of_zero_le h0
 rw [GI m n (by omega)]
theorem EZ(s:aD)(h:aJ s=true):gR (dv s)=s:=by
 have h:=(dg s).1 h
 obtain⟨a1,a2,a3,a4⟩:=split60 [76,68,71,49,s.wd,0,0,0] (jA (gv (mU s))) (num s.ge 8) (num s.ma 4) (num s.hd 4) (num s.pg 4) (List.replicate 32 0) rfl (dC _ _) (dC _ _) (dC _ _) (dC _ _)
 have e:dv s= [76,68,71,49,s.wd,0,0,0]++num s.ge 8++num s.ma 4++num s.hd 4++num s.pg 4++List.replicate 32 0++jA (gv (mU s)):=rfl
 have p8:((256^8:Nat):Int)=18446744073709551616:=by decide
 have p4:((256^4:Nat):Int)=4294967296:=by decide
 unfold gR
 rw [e,a1,a2,a3,a4,mV s.ge 8 (by omega) (by omega),ig _ (by omega) (by omega),mV s.ma 4 (by omega) (by omega),mV s.hd 4 (by omega) (by omega),mV s.pg 4 (by omega) (by omega)]
 simp
theorem CZ(s:aD)(r:List Int)(h:aJ s=true)(hl:r.length=256)(ht:r.take 64=dv s):bq r=(s,0):=by
 unfold bq
 rw [if_neg (by simp [hl]),ht,if_neg (by rw [dv,Ec _ (qz s h)];simp),EZ s h,if_neg (by simp [h])]
theorem qA(r:List Int)(hE:(bq r).2=0):r.length=256/\aJ (bq r).1=true/\r.take 64=dv (bq r).1:=by
 unfold bq at*
 split at hE<;>try (simp at hE;done)
 rename_i g1
 split at hE<;>try (simp at hE;done)
 rename_i g2
 split at hE<;>try (simp at hE;done)
 rename_i g3
 rw [if_neg g1,if_neg g2,if_neg g3]
 have Sd: ¬aJ (gR (r.take 64))=false/\dv (gR (r.take 64))=r.take 64:=by
   constructor
   · exact fun h=>g3 (Or.inl h)
   · exact Classical.byContradiction fun h=>g3 (Or.inr h)
 exact⟨by omega,by simpa using Sd.1,Sd.2.symm⟩
theorem yR(s:aD)(h:aJ s=true):pQ s=(dv s++List.replicate 192 0,0):=by rw [pQ,if_pos h]
theorem Fa(s:aD)(h:aJ s=false):pQ s=([],53):=by rw [pQ,if_neg (by simp [h])]
def iQ(n o:aD):Bool:=decide (n={o with ge:=o.ge+1,ma:=max o.ma n.ma,hd:=n.hd})
def gy(a b:aD):aD×Int:=if a.ge.tmod 2≠0 then(sup0,4)else if iQ a b=true then(a,0)else if iQ b a=true then(b,0)else(sup0,4)
def dJ(r:List Int):Bool:=decide (r.length=256)&&decide (r.take 64=List.replicate 64 0)
def aM(a b:List Int):aD×Int:=
 if(bq a).2=0/\(bq b).2=0 then gy (bq a).1 (bq b).1
 else if((bq a).2=0/\(bq a).1.ge=0)\/dJ a=true then(if dJ b=true then(sup0,55)else(sup0,4))else(sup0,4)
end Go.Proofs.YtpdakmhnnkaafaaGreat
namespace Go.Proofs.YtpdakmhnnkaafaaGreat
set_option maxRecDepth 100000
set_option maxHeartbeats 40000000
set_option linter.unusedVariables false
set_option linter.unusedSimpArgs false
open Go.RowKit
attribute [local go_sem ↓] Go.wp_at_zero Go.wp_at_succ
theorem jS(w:World)(p:Int):Calls Tryz.prog 87 #[.int .i64 p] w fun e w'=>e= .returned (.bool (eG p))/\w'=w:=by
 by_cases h1:2<=p
 · by_cases h2:p<4096
   · have HP:=aa (show eG p=true by simp [eG,h1,h2])
     go_enter Tryz.func87,Tryz.ntmps87
     go_wp2
     go_ret
     exact⟨by rw [HP.out];rfl,rfl⟩
   · have HP:=aa (show eG p=false by simp [eG,h2])
     go_enter Tryz.func87,Tryz.ntmps87
     go_wp2
     go_ret
     exact⟨by rw [HP.out];rfl,rfl⟩
 · have HP:=aa (show eG p=false by simp [eG,h1])
   go_enter Tryz.func87,Tryz.ntmps87
   go_wp2
   go_ret
   exact⟨by rw [HP.out];rfl,rfl⟩
theorem vK(w:World)(k:Int):Calls Tryz.prog 89 #[.int .i64 k] w fun e w'=>e= .returned (.bool (kindOk k))/\w'=w:=by
 by_cases h1:k=1
 · subst h1
   go_enter Tryz.func89,Tryz.ntmps89
   go_wp2
   go_ret
   exact⟨by rfl,rfl⟩
 by_cases h2:k=2
 · subst h2
   go_enter Tryz.func89,Tryz.ntmps89
   go_wp2
   go_ret
   exact⟨by rfl,rfl⟩
 by_cases h3:k=3
 · subst h3
   go_enter Tryz.func89,Tryz.ntmps89
   go_wp2
   go_ret
   exact⟨by rfl,rfl⟩
 have HP:=aa (show kindOk k=false by simp [kindOk];omega)
 have e1:(k==1)=false:=by simpa using h1
 have e2:(k==2)=false:=by simpa using h2
 have e3:(k==3)=false:=by simpa using h3
 clear h1 h2 h3
 go_enter Tryz.func89,Tryz.ntmps89
 go_wp2
 go_ret
 exact⟨by rw [HP.out];rfl,rfl⟩
theorem Da(w:World)(zs:List Int)(sp:Option Addr)(cap:Nat)(hS:Src w sp cap zs):
   Calls Tryz.prog 91 #[.slice sp zs.length cap] w fun e w'=>e= .returned (.bool (decide (zs=List.replicate zs.length 0)))/\Below w.heap.size w w':=by
 obtain⟨hc,hm,b,o,hb,hsp,hsrc⟩:=hS
 unfold maxLen at hm
 have i0:(zs.length:Int)<=9223372036854775807:=by omega
 go_enter Tryz.func91,Tryz.ntmps91
 go_wp2
 go_loopw [7] (fun i wr=> ∃n:Nat,n<=zs.length/\i= .int .i64 n/\zs.take n=List.replicate n 0/\Below w.heap.size w wr) (fun i _=>zs.length-(intOf i).toNat)
 case atStart=>exact⟨0,by omega,rfl,rfl,Below.refl _ _⟩
 case round=>
   obtain⟨n,hn,rfl,hT,hB⟩:=hrel
   replace hT:=aa hT
   by_cases hlt:n<zs.length
   · have i1:(n:Int)<(zs.length:Int):=by omega
     obtain rfl:=hsp (by omega)
     have c0:=(hB.cell (p:=⟨b,o+n,none⟩) (hb (by omega))).trans (hsrc n hlt)
     by_cases hz:zs.getD n 0=0
     · rw [hz]at c0
       replace hz:=aa hz
       have HT:=aa (show zs.take (n+1)=List.replicate (n+1) 0 by
         have:=hz.out
         rw [List.getD_eq_getElem?_getD,List.getElem?_eq_getElem hlt]at this
         rw [List.take_succ_eq_append_getElem hlt,hT.out,List.replicate_succ']
         congr 2)
       go_wp2
       go_roundw
       case rel=>exact⟨n+1,by omega,by go_num,HT.out,hB⟩
       case measure=>simp [intOf];omega
     · have HT:=aa (show decide (zs=List.replicate zs.length 0)=false by
         simp only [decide_eq_false_iff_not]
         intro h
         apply hz
         rw [h]
         simp [List.getElem?_replicate,hlt])
       have hz2:(zs.getD n 0 !=0)=true:=by simpa using hz
       clear hz
       generalize zs.getD n 0=x at*
       go_wp2
       go_ret
       exact⟨by rw [HT.out];rfl,hB⟩
   · obtain rfl:n=zs.length:=by omega
     have HT:=aa (show decide (zs=List.replicate zs.length 0)=true by
       have:=hT.out
       rw [List.take_length]at this
       simpa using this)
     clear hlt hn
     go_wp2
     go_ret
     exact⟨by rw [HT.out];rfl,hB⟩
def gz(os:List Int)(o:Nat)(ys:List Int):List Int:=os.take o++ys++os.drop (o+ys.length)
theorem Fb(os:List Int)(o:Nat)(ys:List Int)(h:o+ys.length<=os.length):(gz os o ys).length=os.length:=by simp [gz];omega
theorem Db(os:List Int)(o:Nat)(ys:List Int)(y:Int)(h:o+ys.length<os.length):(gz os o ys).set (o+ys.length) y=gz os o (ys++ [y]):=by
 unfold gz
 rw [List.set_append_right _ _ (by simp;omega),show o+ys.length-(os.take o++ys).length=0 by simp;omega,List.drop_eq_getElem_cons (by omega),List.set_cons_zero]
 simp [List.append_assoc,Nat.add_assoc]
theorem pR(w:World)(g o n cap:Nat)(t:TypeId)(os:List Int)(v:Int)(hv:0<=v)(hv2:v<9223372036854775808)(hn:n<=8)(hI:w.heap[g]? =some (.cells (ints .u8 os).toArray t (0,0)))(hfit:o+n<=os.length):
   Calls Tryz.prog 95 #[.slice (some ⟨g,o,none⟩) n cap, .int .i64 v] w fun e w'=>e= .returned (.tuple #[])/\w'.heap[g]? =some (.cells (ints .u8 (gz os o (num v n))).toArray t (0,0))/\fF g w w':=by
 have i0:(n:Int)<=8:=by omega
 go_enter Tryz.func95,Tryz.ntmps95
 go_wp2
 go_loopw [7] (fun i wr=> ∃m:Nat,m<=n/\i= .int .i64 m/\wr.heap[g]? =some (.cells (ints .u8 (gz os o (num v m))).toArray t (0,0))/\fF g w wr) (fun i _=>n-(intOf i).toNat)
 case atStart=>exact⟨0,by omega,rfl,by simpa [gz,num]using hI,fF.refl g w⟩
 case round=>
   clear hI
   obtain⟨m,hm,rfl,hI,hK⟩:=hrel
   by_cases hlt:m<n
   · have i1:(m:Int)<(n:Int):=by omega
     have hl:(num v m).length=m:=dC v m
     have hc:=fX hI (o+m) (by rw [Fb _ _ _ (by omega)];omega)
     have hfz:wr.frozen? ⟨g,o+m,none⟩=false:=frozen_of_row _ _ _ _ _ hI
     have HS:=aa (show(gz os o (num v m)).set (o+m) (v/2^(8*m)%256)=gz os o (num v (m+1)) by
       rw [JW v hv m,<-Db _ _ _ _ (by omega),hl,Int.pow_mul];rfl)
     replace hl:=aa hl
     generalize (gz os o (num v m)).getD (o+m) 0=z at*
     go_wp2
     go_roundw
     case rel=>exact⟨m+1,by omega,by go_num,by rw [<-HS.out];exact jW hI _ _,hK.setCell _ _⟩
     case measure=>simp [intOf];omega
   · obtain rfl:m=n:=by omega
     clear hlt
     go_wp2
     go_end0
     exact⟨rfl,hI,hK⟩
theorem vL(a:Nat)(ha:a<18446744073709551616):(BitVec.ofInt 64 (IntKind.i64.wrap (a:Int))).toNat=a:=by
 rw [BitVec.toNat_ofInt,IntKind.wrap_i64]
 omega
theorem OH(A x n:Nat)(hn:n<=7)(hA:A<256^n)(hx:x<256):bits .or .i64 (IntKind.i64.wrap (A:Int)) (IntKind.i64.wrap ((x:Int)*2^(8*n)))=IntKind.i64.wrap ((A+x*256^n:Nat):Int):=by
 have hp:(256:Nat)^n=2^(8*n):=by rw [Nat.pow_mul]
 have h56:(2:Nat)^(8*n)<=2^56:=Nat.pow_le_pow_right (by decide) (by omega)
 rw [hp]at hA⊢
 have XI:x*2^(8*n)<=255*2^56:=Nat.mul_le_mul (by omega) h56
 have e:((x:Int)*2^(8*n))=((x*2^(8*n):Nat):Int):=by simp
 rw [e]
 show IntKind.i64.wrap ((BitVec.ofInt 64 (IntKind.i64.wrap (A:Int))||| BitVec.ofInt 64 (IntKind.i64.wrap ((x*2^(8*n):Nat):Int))).toNat:Int)=_
 rw [BitVec.toNat_or,vL A (by omega),vL _ (by omega),Nat.or_comm,Nat.mul_comm x,<-Nat.two_pow_add_eq_or_of_lt hA,Nat.add_comm]
theorem Az(w:World)(zs:List Int)(h8:aS zs)(hn:zs.length<=8)(sp:Option Addr)(cap:Nat)(hS:Src w sp cap zs):
   Calls Tryz.prog 90 #[.slice sp zs.length cap] w fun e w'=>e= .returned (.int .i64 (IntKind.i64.wrap (le zs)))/\Below w.heap.size w w':=by
 obtain⟨hc,hm,b,o,hb,hsp,hsrc⟩:=hS
 have i0:(zs.length:Int)<=8:=by omega
 go_enter Tryz.func90,Tryz.ntmps90
 go_wp2
 go_loopw [3,8] (fun x i wr=> ∃n:Nat,n<=zs.length/\i= .int .i64 n/\x= .int .i64 (IntKind.i64.wrap (le (zs.take n)))/\Below w.heap.size w wr) (fun _ i _=>zs.length-(intOf i).toNat)
 case atStart=>exact⟨0,by omega,rfl,rfl,Below.refl _ _⟩
 case round=>
   obtain⟨n,Sg,rfl,rfl,hB⟩:=hrel
   by_cases hlt:n<zs.length
   · have i1:(n:Int)<(zs.length:Int):=by omega
     obtain rfl:=hsp (by omega)
     have c0:=(hB.cell (p:=⟨b,o+n,none⟩) (hb (by omega))).trans (hsrc n hlt)
     have DZ:0<=zs.getD n 0/\zs.getD n 0<256:=h8 _ (by rw [List.getD_eq_getElem?_getD,List.getElem?_eq_getElem hlt];exact List.getElem_mem hlt)
     have hlt2:=EU (zs.take n) (h8.take n)
     have hl:(zs.take n).length=n:=by rw [List.length_take];omega
     have HT:=aa (show le (zs.take (n+1))=le (zs.take n)+(zs.getD n 0).toNat*256^n by
       rw [List.take_succ_eq_append_getElem hlt,Nj,hl,List.getD_eq_getElem?_getD,List.getElem?_eq_getElem hlt];rfl)
     rw [hl]at hlt2
     obtain⟨x,hx⟩:=Int.eq_ofNat_of_zero_le DZ.1
     rw [hx]at c0 DZ HT
     rw [Int.toNat_natCast]at HT
     have HO:=aa (OH (le (zs.take n)) x n (by omega) hlt2 (by omega))
     clear hx hlt2 hl
     generalize hA:le (zs.take n)=A at*
     generalize hy:IntKind.i64.wrap (A:Int)=y at*
     replace hy:=aa hy
     replace hA:=aa hA
     go_wp2
     go_roundw
     case rel=>exact⟨n+1,by omega,by go_num,by rw [HT.out,<-HO.out,IntWalk.i64_left],hB⟩
     case measure=>simp [intOf];omega
   · obtain rfl:n=zs.length:=by omega
     clear hlt
     rw [List.take_length]
     go_wp2
     go_ret
     exact⟨rfl,hB⟩
def zz(n:Nat):List Int:=List.replicate n 0
theorem gT(n:Nat):(zz n).length=n:=by simp [zz]
theorem AA(a:Act)(o:Oper)(ho:o.op= .alloc 144)(w:World):(execOp a.eval o).run Tryz.prog w= .ok (.value (.pointer (some ⟨w.heap.size,0,none⟩))) (w.alloc (.cells (ints .u8 (zz 252)).toArray 144)):=by
 unfold execOp
 rw [ho]
 kernel_rfl
theorem vM{w:World}{ops:Array Oper}{rest:List Oper}{o:Oper}{a:Act}{Q:Exit->Act->World->Prop}(hg:o.guard=none)(ho:o.op= .alloc 144)
   (h:wpList Tryz.prog ops Q rest (a.put o.dst (.pointer (some ⟨w.heap.size,0,none⟩))) (w.alloc (.cells (ints .u8 (zz 252)).toArray 144))):wpList Tryz.prog ops Q (o::rest) a w:=by
 refine wpList_plain hg fun K hK=>?_
 unfold Oper.wp
 rw [AA a o ho w]
 exact hK _ _ h
def New(w w':World)(v:Value)(zs:List Int):Prop:=(v= .slice none 0 0/\zs= [])\/zs≠ []/\ ∃g,v= .slice (some ⟨g,0,none⟩) zs.length zs.length/\w.heap.size<=g/\w'.heap[g]? =some (.cells (ints .u8 zs).toArray 5 (0,0))
theorem JX(k n:Int):((zz 252).set 0 k).set 1 n= [k,n]++zz 250:=by
 rw [show zz 252=0::0::zz 250 from rfl];rfl
theorem Nk(k n:Int)(ys:List Int)(hy:ys.length=4):gz ([k,n]++zz 250) 2 ys= [k,n]++ys++zz 246:=by
 unfold gz
 rw [hy,show List.take 2 ([k,n]++zz 250)= [k,n]from rfl,show [k,n]++zz 250=([k,n]++zz 4)++zz 246 from rfl,List.drop_left' (show([k,n]++zz 4).length=2+4 from rfl)]
theorem JY(k n:Int)(ys l:List Int)(hy:ys.length=4)(hl:l.length<=246):splice (ints .u8 ([k,n]++ys++zz 246)) 6 (ints .u8 l)=ints .u8 ([k,n]++ys++l++List.replicate (246-l.length) 0):=by
 have e:ints .u8 ([k,n]++ys++zz 246)=ints .u8 ([k,n]++ys)++ints .u8 (zz 246):=by simp [ints]
 unfold splice
 rw [e,List.take_left' (by rw [aI];simp [hy]),aI,<-List.drop_drop,List.drop_left' (by rw [aI];simp [hy])]
 have e2:(ints .u8 (zz 246)).drop l.length=ints .u8 (List.replicate (246-l.length) 0):=by
   unfold ints zz
   rw [<-List.map_drop,List.drop_replicate]
 rw [e2]
 simp only [ints,List.map_append,List.append_assoc]
theorem Nl(w:World)(k p:Int)(l:List Int)(h8:aS l)(hk:kindOk k=true)(hp:eG p=true)(hl:l.length<=246)(sp:Option Addr)(cap:Nat)(hS:Src w sp cap l):
   Calls Tryz.prog 72 #[.int .i64 k, .int .i64 p, .slice sp l.length cap] w fun e w'=> ∃g,e= .returned (.tuple #[.slice (some ⟨g,0,none⟩) 256 256, .int .i64 0])/\w.heap.size<=g/\w'.heap[g]? =some (.cells (ints .u8 (cy k p l)).toArray 5 (0,0))/\Below w.heap.size w w':=by
 have hk':=(gQ k).1 hk
 have si:=(lN p).1 hp
 have j1:1<=k:=hk'.1
 have j2:k<=3:=hk'.2
 have j3:(l.length:Int)<=246:=by omega
 clear hk'
 go_enter Tryz.func72,Tryz.ntmps72
 go_wp2_with fail
 refine(vK w k).mono ?_
 rintro e w1 ⟨rfl,rfl⟩
 rw [hk]
 go_wp2_with fail
 refine(jS w1 p).mono ?_
 rintro e w2 ⟨rfl,rfl⟩
 rw [hp]
 replace hk:=aa hk
 replace hp:=aa hp
 have hr1:=aF w2 (.cells (ints .u8 (zz 252)).toArray 144)
 have hB1:Below w2.heap.size w2 (w2.alloc (.cells (ints .u8 (zz 252)).toArray 144)):=aq w2 _
 go_wp2_with (first
   | (refine vM rfl rfl ?_;generalize w2.alloc (.cells (ints .u8 (zz 252)).toArray 144)=w3 at*;have c0:=fX hr1 0 (by decide);have c1:=fX hr1 1 (by decide);have f0:w3.frozen? ⟨w2.heap.size,0,none⟩=false:=frozen_of_row _ _ _ _ _ hr1;have f1:w3.frozen? ⟨w2.heap.size,1,none⟩=false:=frozen_of_row _ _ _ _ _ hr1))
 have hr4:((w3.setCell ⟨w2.heap.size,0,none⟩ (Value.int .u8 k)).setCell ⟨w2.heap.size,1,none⟩ (Value.int .u8 (l.length:Int))).heap[w2.heap.size]? =some (.cells (ints .u8 ([k,(l.length:Int)]++zz 250)).toArray 144 (0,0)):=by
   rw [<-JX];exact jW (jW hr1 0 k) 1 _
 have hB4:Below w2.heap.size w2 ((w3.setCell ⟨w2.heap.size,0,none⟩ (Value.int .u8 k)).setCell ⟨w2.heap.size,1,none⟩ (Value.int .u8 (l.length:Int))):=(hB1.setCell (Nat.le_refl _) _).setCell (Nat.le_refl _) _
 generalize (w3.setCell ⟨w2.heap.size,0,none⟩ (Value.int .u8 k)).setCell ⟨w2.heap.size,1,none⟩ (Value.int .u8 (l.length:Int))=w4 at*
 clear hr1 hB1 c0 c1 f0 f1
 refine(pR w4 w2.heap.size 2 4 250 144 _ p (by omega) (by omega) (by omega) hr4 (by simp [gT])).mono ?_
 rintro e w5 ⟨rfl,hr5,hK5⟩
 rw [Nk _ _ _ (dC p 4)]at hr5
 have hB5:Below w2.heap.size w2 w5:=hB4.trans (hK5.xO (Nat.le_refl _) hB4.size)
 clear hK5 hr4 hB4
 obtain⟨hc,hm,b,o,hb,hsp,hsrc⟩:=hS
 have KC:=aa (show(ints .u8 l).length=Nat.min l.length 246 by rw [aI];exact(Nat.min_eq_left hl).symm)
 have KF:=aa (show 6+(ints .u8 l).length<=(ints .u8 ([k,(l.length:Int)]++num p 4++zz 246)).length by rw [aI,aI];simp [dC,gT];omega)
 have KO:=aa (dR .u8 l)
 have KP:=aa (show 0<(ints .u8 l).length-> ∃ad,sp=some ad/\ ∀j v,(ints .u8 l)[j]? =some v->w5.cell? (ad.add j)=some v by
   intro hpos
   rw [aI]at hpos
   refine⟨_,hsp hpos,fun j v hv=>?_⟩
   have hj:j<l.length:=by have:=(List.getElem?_eq_some_iff.1 hv).1;rwa [aI]at this
   rw [fx .u8 l j hj]at hv
   cases hv
   rw [show(⟨b,o,none⟩:Addr).add j=⟨b,o+j,none⟩ by simp [Addr.add]]
   exact(hB5.cell (p:=⟨b,o+j,none⟩) (hb hpos)).trans (hsrc j hj))
 have KS:=aa (JY k l.length (num p 4) l (dC p 4) hl)
 have KE:=aa (show [k,(l.length:Int)]++num p 4++l++List.replicate (246-l.length) 0=gG k p l from rfl)
 go_wp2_with (first
   | (refine wpList_copy_splice rfl (.tmp 28) (.tmp 29) 31 31 rfl 5 Tryz.underlying31 Tryz.size5 (some ⟨w2.heap.size,6,none⟩) sp 246 246 l.length cap rfl rfl w2.heap.size 6 _ 144 hr5 (ints .u8 l) KC.out (fun h=>⟨rfl,KP.out h⟩) KF.out KO.out w2.heap.size w2 hB5 (Nat.le_refl _) ?_;intro w6 hr6 hB6))
 have hr7:=hr6.out
 rw [KS.out,KE.out]at hr7
 clear hr6 KS KE KP KO KF KC hsrc hsp hb hr5 hB5
 have hbl:=yP k p l hl
 have hb8:=qy k p l (by omega) hl h8
 have hs:=Av w6 (gG k p l) hb8 (some ⟨w2.heap.size,0,none⟩) 252 (qx hr7 252 (by omega) (by decide)) (by omega)
 rw [hbl]at hs
 refine hs.mono ?_
 rintro e w8 ⟨rfl,hr8,hB8⟩
 have hB:=hB6.trans (hB8.mono hB6.size)
 have hG:=hB6.size
 clear hs hr7 hB6 hB8 hbl hb8
 go_wp2
 go_ret2
 exact⟨_,rfl,hG,hr8,hB⟩
theorem Fc{w:World}{base g:Nat}(h:w.heap[g]? =some (.cells #[] 5 (0,0)))(hg:base<=g):Own w base (.slice (some ⟨g,0,none⟩) 0 0) []:=
 ⟨rfl,Or.inr ⟨g,0,#[],rfl,hg,h,Nat.le_refl _,by simp [maxLen],rfl,rfl⟩⟩
theorem GJ(w:World)(l:List Int)(a:Addr)(cap:Nat)(hS:Src w (some a) cap l)(hl:l.length<=1000):
   Calls Tryz.prog 92 #[.slice (some a) l.length cap] w fun e w'=> ∃v,e= .returned v/\Own w' w.heap.size v l/\Below w.heap.size w w':=by
 have hr1:=aF w (.cells #[] 5)
 have hO1:Own (w.alloc (.cells #[] 5)) w.heap.size (.slice (some ⟨w.heap.size,0,none⟩) 0 0) []:=Fc hr1 (Nat.le_refl _)
 have hB1:=aq w (.cells #[] 5)
 have hS1:=hS.below hB1 (Nat.le_refl _)
 have KL:=aa (show([]:List Int).length+l.length<=140737488351232 by simp;omega)
 have hN:(binOp .eql 31 (.slice (some a) l.length cap) (.slice none 0 0)).run Tryz.prog w= .ok (.bool false) w:=run_eql_slice_nil w 31 5 (some a) l.length cap Tryz.underlying31
 clear hr1
 go_enter Tryz.func92,Tryz.ntmps92
 go_wp2_with (first
   | (refine jy rfl (.tmp 5) (.tmp 6) rfl w.heap.size _ [] l rfl hO1 (some a) cap rfl (fun h=>by cases h) hS1 KL.out hB1.size ?_;intro v2 w2 hO2 hg2 hb2))
 have hB2:=dx hg2 (fun k hk=>(hO1.block k hk).1) hB1.size
 rw [List.nil_append]at hO2
 clear hg2 hb2
 go_wp2
 go_ret
 exact⟨_,rfl,hO2,hB1.trans hB2⟩
theorem Src.mid{w:World}{b o cap:Nat}{r:List Int}(hS:Src w (some ⟨b,o,none⟩) cap r)(k n:Nat)(h:k+n<=r.length)(hb:b<w.heap.size)(c:Nat)(hc1:n<=c)(hc2:c<=maxLen):Src w (some ⟨b,o+k,none⟩) c ((r.drop k).take n):=by
 obtain⟨h1,h2,b',o',h3,h4,h5⟩:=hS
 have hl:((r.drop k).take n).length=n:=by simp;omega
 refine⟨by omega,hc2,b,o+k,fun _=>hb,fun _=>rfl,fun j hj=>?_⟩
 have he:=h4 (by omega)
 cases he
 have:=h5 (k+j) (by omega)
 rw [Nat.add_assoc,this,List.getD_eq_getElem?_getD,List.getD_eq_getElem?_getD,List.getElem?_take,if_pos (by omega),List.getElem?_drop]
theorem Own.base{w:World}{B B':Nat}{v:Value}{zs:List Int}(h:Own w B v zs)(hB:B'<=B):Own w B' v zs:=by
 refine⟨h.1,?_⟩
 rcases h.2 with h2| ⟨g,cap,cur,rfl,hg,r⟩
 · exact Or.inl h2
 · exact Or.inr ⟨g,cap,cur,rfl,by omega,r⟩
theorem GK(w:World)(p:Int)(r:List Int)(h8:aS r)(hp:eG p=true)(hl:r.length=256)(hC:feed ones r=CR)(sp:Option Addr)(cap:Nat)(hS:Src w sp cap r):
   Calls Tryz.prog 64 #[.int .i64 p, .slice sp 256 cap] w fun e w'=> ∃v,e= .returned (.tuple #[.int .i64 (bh p r).1,v, .int .i64 (bh p r).2.2])/\Own w' w.heap.size v (bh p r).2.1/\Below w.heap.size w w':=by
 have vI:=hS
 obtain⟨hc,hm,b,o,hb,hsp,hsrc⟩:=hS
 obtain rfl:=hsp (by omega)
 replace hb:=hb (by omega)
 have i1:256<=cap:=by omega
 have i2:(256:Int)<=(cap:Int):=by omega
 have hw:=xR w r h8 (by omega) (some ⟨b,o,none⟩) cap vI
 rw [hl]at hw
 have HP:=aa hp
 have HL:=aa hl
 have HC:=aa hC
 have g0:=h8 (r.getD 0 0) (by rw [List.getD_eq_getElem?_getD,List.getElem?_eq_getElem (by omega)];exact List.getElem_mem _)
 have g1:=h8 (r.getD 1 0) (by rw [List.getD_eq_getElem?_getD,List.getElem?_eq_getElem (by omega)];exact List.getElem_mem _)
 have HU:=aa (show bh p r=(if kindOk (r.getD 0 0)=false then(0,[],50)else if 246<r.getD 1 0 then(0,[],51)
 else if(le ((r.drop 2).take 4):Int)≠p then(0,[],54)
 else if(r.drop (6+(r.getD 1 0).toNat)).take (246-(r.getD 1 0).toNat)≠List.replicate (246-(r.getD 1 0).toNat) 0 then(0,[],53)
 else(r.getD 0 0,(r.drop 6).take (r.getD 1 0).toNat,0)) by
   rw [bh,if_neg (by simp [hp]),if_neg (by simp [hl]),if_neg (by simp [hC])])
 have Mb:=hsrc 0 (by omega)
 have c1':=hsrc 1 (by omega)
 rw [Nat.add_zero]at Mb
 have h24:((r.drop 2).take 4).length=4:=by simp [hl]
 obtain⟨k,hk⟩: ∃k,k=r.getD 0 0:=⟨_,rfl⟩
 obtain⟨n,hn⟩: ∃n:Nat,(n:Int)=r.getD 1 0:=⟨(r.getD 1 0).toNat,by omega⟩
 rw [<-hk]at g0 HU Mb
 rw [<-hn]at g1 HU c1'
 rw [Int.toNat_natCast]at HU
 clear hk hn hp hC
 go_enter Tryz.func64,Tryz.ntmps64
 go_wp2_with fail
 refine(jS w p).mono ?_
 rintro e w1 ⟨rfl,rfl⟩
 rw [HP.out]
 clear hl
 go_wp2_with fail
 refine hw.mono ?_
 rintro e w2 ⟨rfl,b2⟩
 rw [HC.out,show(decide (CR=CR))=true from by simp]
 have c0:=(b2.cell (p:=⟨b,o,none⟩) hb).trans Mb
 have c1:=(b2.cell (p:=⟨b,o+1,none⟩) hb).trans c1'
 have hb2:b<w2.heap.size:=Nat.lt_of_lt_of_le hb b2.size
 have hS2:=vI.below b2 (Nat.le_refl _)
 clear Mb c1' hw hsrc
 go_wp2_with fail
 go_quiet (fail)
 have b3:Below w1.heap.size w1 (w2.drewN nq):=below_drewN b2 nq
 have hS3:Src (w2.drewN nq) (some ⟨b,o,none⟩) cap r:=hS2
 have hb3:b<(w2.drewN nq).heap.size:=hb2
 generalize w2.drewN nq=w3 at*
 clear b2 hS2 hb2 c0 c1
 go_wp2_with fail
 refine(vK w3 k).mono ?_
 rintro e w4 ⟨rfl,rfl⟩
 cases hk:kindOk k
 · have HF:=aa (show bh p r=(0,[],50) by rw [HU.out,if_pos hk])
   clear HU
   go_wp2
   go_ret3
   exact⟨_,by rw [HF.out];rfl,by rw [HF.out];exact Own.nil _ _,b3⟩
 have HK:=aa hk
 clear hk
 by_cases hn:246<n
 · have HF:=aa (show bh p r=(0,[],51) by rw [HU.out,if_neg (by simp [HK.out]),if_pos (by omega)])
   clear HU
   have i3:(246:Int)<(n:Int):=by omega
   go_wp2
   go_ret3
   exact⟨_,by rw [HF.out];rfl,by rw [HF.out];exact Own.nil _ _,b3⟩
 have i3:(n:Int)<=246:=by omega
 have pS:=Az w4 ((r.drop 2).take 4) ((h8.drop 2).take 4) (by omega) (some ⟨b,o+2,none⟩) (cap-2) (hS3.mid 2 4 (by have:=HL.out;omega) hb3 _ (by omega) (by omega))
 have hlt4:=EU ((r.drop 2).take 4) ((h8.drop 2).take 4)
 rw [h24]at pS hlt4
 have hW:=ig (le ((r.drop 2).take 4):Int) (by omega) (by omega)
 rw [hW]at pS
 clear hW
 go_wp2_with fail
 refine pS.mono ?_
 rintro e w5 ⟨rfl,b5⟩
 have Mc:=b3.trans (b5.mono b3.size)
 have hS5:=hS3.below b5 (Nat.le_refl _)
 have hb5:b<w5.heap.size:=Nat.lt_of_lt_of_le hb3 b5.size
 clear pS b5 b3 hS3 hb3
 obtain⟨q,hq⟩: ∃q:Int,q=(le ((r.drop 2).take 4):Int):=⟨_,rfl⟩
 rw [<-hq]at HU⊢
 clear hq hlt4
 by_cases Md:q=p
 · subst Md
   have i4:(n:Int)+6<=252:=by omega
   have hlz:((r.drop (6+n)).take (246-n)).length=252-(6+n):=by have:=HL.out;simp;omega
   have hz:=Da w5 ((r.drop (6+n)).take (246-n)) (some ⟨b,o+(6+n),none⟩) (cap-(6+n)) (hS5.mid (6+n) (246-n) (by have:=HL.out;omega) hb5 _ (by omega) (by omega))
   rw [hlz]at hz
   go_wp2_with fail
   refine hz.mono ?_
   rintro e w6 ⟨rfl,b6⟩
   have GL:=Mc.trans (b6.mono Mc.size)
   have hS6:=hS5.below b6 (Nat.le_refl _)
   have hb6:b<w6.heap.size:=Nat.lt_of_lt_of_le hb5 b6.size
   clear hz b6 Mc hS5 hb5 hlz
   by_cases hzz:(r.drop (6+n)).take (246-n)=List.replicate (246-n) 0
   · have HF:=aa (show bh q r=(k,(r.drop 6).take n,0) by rw [HU.out,if_neg (by simp [HK.out]),if_neg (by omega),if_neg (by simp),if_neg (by simp [hzz])])
     rw [show(decide ((r.drop (6+n)).take (246-n)=List.replicate (252-(6+n)) 0))=true by rw [hzz];simp;omega]
     clear HU hzz
     have hl6:((r.drop 6).take n).length=n:=by have:=HL.out;simp;omega
     have gH:=GJ w6 ((r.drop 6).take n) ⟨b,o+6,none⟩ (cap-6) (hS6.mid 6 n (by have:=HL.out;omega) hb6 _ (by omega) (by omega)) (by omega)
     rw [hl6]at gH
     clear hl6
     go_wp2_with fail
     refine gH.mono ?_
     rintro e w7 ⟨v,rfl,hO,b7⟩
     have Ed:=GL.trans (b7.mono GL.size)
     have Ve:Own w7 w1.heap.size v ((r.drop 6).take n):=hO.base GL.size
     clear gH hO b7 GL hS6
     go_wp2
     go_ret3
     exact⟨_,by rw [HF.out];rfl,by rw [HF.out];exact Ve,Ed⟩
   · have HF:=aa (show bh q r=(0,[],53) by rw [HU.out,if_neg (by simp [HK.out]),if_neg (by omega),if_neg (by simp),if_pos hzz])
     rw [show(decide ((r.drop (6+n)).take (246-n)=List.replicate (252-(6+n)) 0))=false by rw [show 252-(6+n)=246-n by omega];simpa using hzz]
     clear HU hzz
     go_wp2
     go_ret3
     exact⟨_,by rw [HF.out];rfl,by rw [HF.out];exact Own.nil _ _,GL⟩
 · have HF:=aa (show bh p r=(0,[],54) by rw [HU.out,if_neg (by simp [HK.out]),if_neg (by omega),if_pos Md])
   clear HU
   have hqp2:(q !=p)=true:=by simpa using Md
   clear Md
   go_wp2
   go_ret3
   exact⟨_,by rw [HF.out];rfl,by rw [HF.out];exact Own.nil _ _,Mc⟩
theorem vN(w:World)(p:Int)(r:List Int)(h8:aS r)(sp:Option Addr)(cap:Nat)(hS:Src w sp cap r):
   Calls Tryz.prog 64 #[.int .i64 p, .slice sp r.length cap] w fun e w'=> ∃v,e= .returned (.tuple #[.int .i64 (bh p r).1,v, .int .i64 (bh p r).2.2])/\Own w' w.heap.size v (bh p r).2.1/\Below w.heap.size w w':=by
 have yS:(r.length:Int)<=9223372036854775807:=by have:=hS.1;have:=hS.2.1;unfold maxLen at this;omega
 cases hp:eG p
 · have HF:=aa (show bh p r=(0,[],54) by rw [bh,if_pos hp])
   clear hS
   go_enter Tryz.func64,Tryz.ntmps64
   go_wp2_with fail
   refine(jS w p).mono ?_
   rintro e w1 ⟨rfl,rfl⟩
   rw [hp]
   go_wp2
   go_ret3
   exact⟨_,by rw [HF.out];rfl,by rw [HF.out];exact Own.nil _ _,Below.refl _ _⟩
 by_cases hl:r.length=256
 · by_cases hC:feed ones r=CR
   · rw [hl];exact GK w p r h8 hp hl hC sp cap hS
   · have HF:=aa (EW p r hp hl hC)
     have hw:=xR w r h8 (by omega) sp cap hS
     rw [show decide (feed ones r=CR)=false by simpa using hC]at hw
     rw [hl]at hw⊢
     clear hS hl yS hC
     go_enter Tryz.func64,Tryz.ntmps64
     go_wp2_with fail
     refine(jS w p).mono ?_
     rintro e w1 ⟨rfl,rfl⟩
     rw [hp]
     go_wp2_with fail
     refine hw.mono ?_
     rintro e w2 ⟨rfl,b2⟩
     go_wp2
     go_ret3
     exact⟨_,by rw [HF.out];rfl,by rw [HF.out];exact Own.nil _ _,b2⟩
 · have HF:=aa (show bh p r=(0,[],53) by rw [bh,if_neg (by simp [hp]),if_pos hl])
   have hl2:((r.length:Int) !=256)=true:=by simp;omega
   clear hS hl
   go_enter Tryz.func64,Tryz.ntmps64
   go_wp2_with fail
   refine(jS w p).mono ?_
   rintro e w1 ⟨rfl,rfl⟩
   rw [hp]
   go_wp2
   go_ret3
   exact⟨_,by rw [HF.out];rfl,by rw [HF.out];exact Own.nil _ _,Below.refl _ _⟩
end Go.Proofs.YtpdakmhnnkaafaaGreat

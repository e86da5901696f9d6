import Derived.Test.YtpdakmhnnkaafaaGreatRows
import Derived.WalkKit
import Derived.WalkSpells
import Derived.WalkLawsBesides
import Derived.ChangeKeysEq
import Derived.OpenShut
import Derived.Laws.CopyOwn
import Derived.Deep.RegionHeld3
import Derived.Deep.MidRow
import Derived.Deep.DrawnRows
import Derived.Laws.AppendOwnNone
import Derived.Maps.AppendAt
import Derived.Deep.DeepCutAuto
import Derived.BigQuiet
import Derived.BigFrame
import Derived.Deep.QuietTactic
import Derived.Laws.BitsLemmas
import Derived.Lib.SlBytesConst
import Derived.Laws.IdiomStrings
namespace Go.Proofs.YtpdakmhnnkaafaaGreat
set_option maxRecDepth 100000
set_option maxHeartbeats 40000000
set_option linter.unusedVariables false
set_option linter.unusedSimpArgs false
def poly:Nat:=3988292384
def step(r:Nat):Nat:=(r>>>1)^^^((r%2)*poly)
def eF:Nat->Nat->Nat
 | 0,r=>r
 | n+1,r=>eF n (step r)
theorem JR(a b:Nat):(a^^^b)%2=(a%2)^^^(b%2):=by
 have:=Nat.xor_mod_two_pow (a:=a) (b:=b) (n:=1)
 simpa using this
theorem Am(a b:Nat)(ha:a<2)(hb:b<2):(a^^^b)*poly=(a*poly)^^^(b*poly):=by
 rcases Nat.lt_or_ge a 1 with h| h
 · obtain rfl:a=0:=by omega
   simp
 · obtain rfl:a=1:=by omega
   rcases Nat.lt_or_ge b 1 with h| h
   · obtain rfl:b=0:=by omega
     simp
   · obtain rfl:b=1:=by omega
     simp
theorem xor4(a b c d:Nat):(a^^^b)^^^(c^^^d)=(a^^^c)^^^(b^^^d):=by
 rw [Nat.xor_assoc,Nat.xor_assoc,<-Nat.xor_assoc b c d,Nat.xor_comm b c,Nat.xor_assoc c b d]
theorem JS(a b:Nat):step (a^^^b)=step a^^^step b:=by
 unfold step
 rw [Nat.shiftRight_xor_distrib,JR,Am _ _ (Nat.mod_lt _ (by decide)) (Nat.mod_lt _ (by decide)),xor4]
theorem rP(n:Nat): ∀a b,eF n (a^^^b)=eF n a^^^eF n b:=by
 induction n with
 | zero=>intros;rfl
 | succ n ih=>intro a b;rw [eF,JS,ih];rfl
theorem yH(n:Nat): ∀m a,eF (n+m) a=eF m (eF n a):=by
 induction n with
 | zero=>intro m a;rw [Nat.zero_add];rfl
 | succ n ih=>intro m a;rw [Nat.succ_add,eF,ih];rfl
theorem DV(r:Nat)(h:r<4294967296):step r<4294967296:=by
 unfold step
 refine Nat.xor_lt_two_pow (n:=32) ?_ ?_
 · rw [Nat.shiftRight_eq_div_pow];omega
 · have:r%2<2:=Nat.mod_lt _ (by decide)
   unfold poly;omega
theorem JT(n:Nat): ∀r,r<4294967296->eF n r<4294967296:=by
 induction n with
 | zero=>intro r h;exact h
 | succ n ih=>intro r h;exact ih _ (DV r h)
theorem Ao(r:Nat)(h:r<4294967296)(h0:step r=0):r=0:=by
 have hb:(step r).testBit 31=false:=by rw [h0];simp
 unfold step at hb h0
 rw [Nat.testBit_xor,Nat.testBit_shiftRight,Nat.testBit_lt_two_pow (i:=1+31) (by omega),Bool.false_xor]at hb
 have h2:r%2=0:=by
   rcases Nat.mod_two_eq_zero_or_one r with e| e
   · exact e
   · rw [e]at hb;exact absurd hb (by decide)
 rw [h2,Nat.zero_mul,Nat.xor_zero,Nat.shiftRight_eq_div_pow]at h0
 omega
theorem zT(n:Nat): ∀r,r<4294967296->eF n r=0->r=0:=by
 induction n with
 | zero=>intro r _ h;exact h
 | succ n ih=>intro r h h0;exact Ao r h (ih _ (DV r h) h0)
theorem CQ{a b:Nat}(h:a^^^b=0):a=b:=by
 have:a^^^b^^^b=b:=by rw [h,Nat.zero_xor]
 rw [Nat.xor_assoc,Nat.xor_self,Nat.xor_zero]at this
 exact this
theorem pN{a b:Nat}(ha:a<4294967296)(hb:b<4294967296):a^^^b<4294967296:=Nat.xor_lt_two_pow (n:=32) ha hb
theorem Gu(n a b:Nat)(ha:a<4294967296)(hb:b<4294967296)(h:eF n a=eF n b):a=b:=
 CQ (zT n _ (pN ha hb) (by rw [rP,h,Nat.xor_self]))
def rQ:List Nat:= [0,0x1DB71064,0x3B6E20C8,0x26D930AC,0x76DC4190,0x6B6B51F4,0x4DB26158,0x5005713C,0xEDB88320,0xF00F9344,0xD6D6A3E8,0xCB61B38C,0x9B64C2B0,0x86D3D2D4,0xA00AE278,0xBDBDF21C]
theorem DW: ∀j,j<16->rQ.getD j 0<4294967296:=by decide
theorem Gv: ∀j,j<16->rQ.getD j 0=eF 4 j:=by decide
theorem yI(m:Nat):step (2*m)=m:=by
 unfold step
 rw [Nat.mul_mod_right,Nat.zero_mul,Nat.xor_zero,Nat.shiftRight_eq_div_pow]
 omega
theorem split16(r:Nat):r=(2*(2*(2*(2*(r>>>4)))))^^^(r%16):=by
 apply Nat.eq_of_testBit_eq
 intro i
 have e:2*(2*(2*(2*(r>>>4))))=2^4*(r>>>4):=by omega
 have e2:=Nat.testBit_mod_two_pow r 4 i
 rw [show(2:Nat)^4=16 by decide]at e2
 rw [e,Nat.testBit_xor,Nat.testBit_two_pow_mul,e2,Nat.testBit_shiftRight]
 by_cases h:i<4
 · have h2: ¬i>=4:=by omega
   simp [h,h2]
 · have h2:i>=4:=by omega
   simp [h,h2,show 4+(i-4)=i by omega]
theorem yJ(r:Nat):(r>>>4)^^^rQ.getD (r%16) 0=eF 4 r:=by
 conv=>rhs;rw [split16 r,rP]
 rw [Gv _ (Nat.mod_lt _ (by decide))]
 congr 1
 simp [eF,yI]
def feed(r:Nat):List Int->Nat
 | []=>r
 | b::l=>feed (eF 8 (r^^^b.toNat)) l
theorem uo(l m:List Int): ∀r,feed r (l++m)=feed (feed r l) m:=by
 induction l with
 | nil=>intro r;rfl
 | cons b l ih=>intro r;exact ih _
def aS(l:List Int):Prop:= ∀x∈l,0<=x/\x<256
theorem pO(l:List Int)(hl:aS l): ∀r,r<4294967296->feed r l<4294967296:=by
 induction l with
 | nil=>intro r h;exact h
 | cons b l ih=>
   intro r h
   have hb:=hl b (by simp)
   exact ih (fun x hx=>hl x (by simp [hx])) _ (JT _ _ (pN h (by omega)))
theorem Gw(l:List Int)(b:Int)(r:Nat):feed r (l++ [b])=eF 8 (feed r l^^^b.toNat):=by rw [uo];rfl
def ones:Nat:=4294967295
def inv(r:Nat):Nat:=ones^^^r
theorem rR{r:Nat}(h:r<4294967296):inv r<4294967296:=pN (by unfold ones;omega) h
def EO(c:Nat)(l:List Int):Nat:=inv (feed (inv c) l)
def gv(l:List Int):Nat:=EO 0 l
theorem Nc{c:Nat}(hc:c<4294967296){l:List Int}(hl:aS l):EO c l<4294967296:=rR (pO l hl _ (rR hc))
theorem tO{l:List Int}(hl:aS l):gv l<4294967296:=Nc (by decide) hl
def DX(a b:Nat):Nat->Nat
 | 0=>0
 | i+1=>step (DX a b i)^^^((b>>>i%2)*a)
def times(a b:Nat):Nat:=DX a b 32
theorem m2(a:Nat):a%2<2:=Nat.mod_lt _ (by decide)
def pw:Nat->Nat
 | 0=>1073741824
 | k+1=>times (pw k) (pw k)
end Go.Proofs.YtpdakmhnnkaafaaGreat
namespace Go.Proofs.YtpdakmhnnkaafaaGreat
set_option maxRecDepth 100000
set_option maxHeartbeats 40000000
set_option linter.unusedVariables false
set_option linter.unusedSimpArgs false
open Go.RowKit
theorem aa{p:Prop}(h:p):Hid p:=h
theorem Ap{P:Program}{e:TypeId}{kd:IntKind}(hu:P.underlying e=some (.int kd))(xs:Array Value)(o:Nat)(v:Value)(h:xs[o]? =some v)(w:World):(part e xs o).run P w= .ok v w:=by
 have hagg:(isAgg e).run P w= .ok false w:=by
   unfold isAgg
   rw [Sem.run_bind,run_underlying hu w]
   rfl
 simp [part,Sem.run_bind,hagg,h]
theorem rT{P:Program}{e:TypeId}{kd:IntKind}(hu:P.underlying e=some (.int kd))(d:Nat)(k:IntKind)(ax bs:List Int)(w:World): ∀is:List Nat,(∀i∈is,i<ax.length/\i<bs.length)→
   (Op.eqItems (d+1) e 1 (ax.map (Value.int k)).toArray (bs.map (Value.int k)).toArray is).run P w= .ok (is.all fun i=>ax[i]? ==bs[i]?) w
 | [],_=>by simp [Op.eqItems]
 | i::is,h=>by
   obtain⟨ha,hb⟩:=h i (by simp)
   have ih:=rT hu d k ax bs w is (fun j hj=>h j (by simp [hj]))
   have pa:(part e (ax.map (Value.int k)).toArray i).run P w= .ok (.int k ax[i]) w:=Ap hu _ _ _ (by simp [ha]) w
   have pb:(part e (bs.map (Value.int k)).toArray i).run P w= .ok (.int k bs[i]) w:=Ap hu _ _ _ (by simp [hb]) w
   simp only [Op.eqItems,Nat.mul_one,Sem.run_bind,pa,pb,Result.andThen_ok,run_equalIn_int w d e k kd _ _ hu]
   rw [List.all_cons,List.getElem?_eq_getElem ha,List.getElem?_eq_getElem hb]
   cases hc:ax[i]==bs[i]
   · have:(some ax[i]==some bs[i])=false:=by simpa using hc
     simp [this]
   · have:(some ax[i]==some bs[i])=true:=by simpa using hc
     simp [this,ih]
theorem Aq(ax bs:List Int)(n:Nat)(ha:ax.length=n)(hb:bs.length=n):((List.range n).all fun i=>ax[i]? ==bs[i]?)=decide (ax=bs):=by
 rw [Bool.eq_iff_iff,decide_eq_true_iff]
 simp only [List.all_eq_true,List.mem_range,beq_iff_eq]
 constructor
 · intro h
   apply List.ext_getElem?
   intro i
   by_cases hi:i<n
   · exact h i hi
   · rw [List.getElem?_eq_none (by omega),List.getElem?_eq_none (by omega)]
 · rintro rfl i _;rfl
theorem rU{P:Program}{t e:TypeId}{kd:IntKind}{n:Nat}(ht:P.underlying t=some (.array n e))(hu:P.underlying e=some (.int kd))(hs:(P.info? e).map (·.size)=some 1)(k:IntKind)(ax bs:List Int)(ha:ax.length=n)(hb:bs.length=n)(w:World):
   (Op.equalIn 10000 t (.agg (ax.map (Value.int k)).toArray) (.agg (bs.map (Value.int k)).toArray)).run P w= .ok (decide (ax=bs)) w:=by
 obtain⟨i,hi⟩:=info_of_underlying hu
 have hc:P.cellsOf e=1:=by simp [Program.cellsOf,hi]at hs⊢;exact hs
 rw [show(10000:Nat)=9998+1+1 from rfl,run_equalIn_array w (9998+1) _ _ ht hi,hc,rT hu 9998 k ax bs w _ (fun j hj=>by simp at hj;omega),Aq ax bs n ha hb]
theorem ou(w:World)(A B C:Obj):(((w.alloc A).alloc B).alloc C).heap[w.heap.size+1+1]? =some C:=by
 show(((w.heap.push A).push B).push C)[w.heap.size+1+1]? =some C
 rw [Array.getElem?_push,if_pos (by simp)]
theorem rV(w:World)(A B C:Obj):(((w.alloc A).alloc B).alloc C).heap[w.heap.size+1]? =some B:=by
 show(((w.heap.push A).push B).push C)[w.heap.size+1]? =some B
 rw [Array.getElem?_push,if_neg (by simp),Array.getElem?_push,if_pos (by simp)]
theorem rW(w:World)(A B C:Obj):(((w.alloc A).alloc B).alloc C).heap[w.heap.size]? =some A:=by
 show(((w.heap.push A).push B).push C)[w.heap.size]? =some A
 rw [Array.getElem?_push,if_neg (by simp;omega),Array.getElem?_push,if_neg (by simp),Array.getElem?_push,if_pos rfl]
theorem below3(w:World)(A B C:Obj):Below w.heap.size w (((w.alloc A).alloc B).alloc C):=
 (((Below.refl _ _).alloc (Nat.le_refl _) _).alloc (by simp) _).alloc (by simp;omega) _
theorem aF(w:World)(o:Obj):(w.alloc o).heap[w.heap.size]? =some o:=by
 show(w.heap.push o)[w.heap.size]? =some o
 simp
theorem hold{w:World}{o x:Obj}{i:Nat}(hx:w.heap[i]? =some x):(w.alloc o).heap[i]? =some x:=by
 have h:i<w.heap.size:=(Array.getElem?_eq_some_iff.1 hx).1
 show(w.heap.push o)[i]? =some x
 rw [Array.getElem?_push,if_neg (Nat.ne_of_lt h),hx]
theorem hlt{w:World}{x:Obj}{i:Nat}(hx:w.heap[i]? =some x):i<w.heap.size:=(Array.getElem?_eq_some_iff.1 hx).1
theorem ee{w w1:World}{B g:Nat}{o:Obj}(hb:Below B w w1)(h:w.heap[g]? =some o)(hg:g<B):w1.heap[g]? =some o:=(hb.block g hg).trans h
theorem yK{w:World}{g:Nat}{cs:List Value}{t:TypeId}{fr:Nat×Nat}(h:w.heap[g]? =some (.cells cs.toArray t fr)):w.rangeAt g 0 cs:=fun j v hv=>by rw [Nat.zero_add,cell_of_row _ _ _ _ _ _ h];simpa using hv
theorem yL{w w1:World}{B g o:Nat}{cs:List Value}(h:w.rangeAt g o cs)(hb:Below B w w1)(hg:g<B):w1.rangeAt g o cs:=fun j v hv=>(hb.cell (p:=⟨g,o+j,none⟩) hg).trans (h j v hv)
theorem aP(w:World)(cs ds:Array Value)(t:TypeId)(fr:Nat×Nat):(w.alloc (.cells cs t fr)).setRow w.heap.size ds=w.alloc (.cells ds t fr):=by
 unfold World.setRow World.alloc
 congr 1
 apply Array.ext
 · simp
 · intro i h1 h2
   simp only [Array.getElem_modify,Array.getElem_push]
   split<;>split<;>simp_all<;>omega
theorem ig(x:Int)(h: -9223372036854775808<=x)(h2:x<=9223372036854775807):IntKind.i64.wrap x=x:=by
 rw [IntKind.wrap_i64];omega
def ints(k:IntKind)(zs:List Int):List Value:=zs.map (Value.int k)
theorem aI(k:IntKind)(zs:List Int):(ints k zs).length=zs.length:=by simp [ints]
theorem dP(k:IntKind)(zs:List Int):(ints k zs).toArray.size=zs.length:=by simp [ints]
theorem fx(k:IntKind)(zs:List Int)(j:Nat)(h:j<zs.length):(ints k zs)[j]? =some (.int k (zs.getD j 0)):=by simp [ints,h]
theorem dR(k:IntKind)(zs:List Int): ∀v∈ints k zs,v.oneCell'=true:=fun v hv=>by
 obtain⟨z,_,rfl⟩:=List.mem_map.1 hv;rfl
theorem fX{w:World}{g:Nat}{k:IntKind}{zs:List Int}{t:TypeId}{fr:Nat×Nat}(h:w.heap[g]? =some (.cells (ints k zs).toArray t fr))(j:Nat)(hj:j<zs.length):w.cell? ⟨g,j,none⟩=some (.int k (zs.getD j 0)):=by
 rw [cell_of_row _ _ _ _ _ _ h];simpa using fx k zs j hj
def dB(v:List Int)(n:Nat):List Int:=v++List.replicate (n-v.length) 0
theorem qu(v:List Int)(n:Nat)(h:v.length<=n):(dB v n).length=n:=by simp [dB];omega
theorem ints_set(k:IntKind)(zs:List Int)(j:Nat)(x:Int):(ints k zs).toArray.setIfInBounds j (.int k x)=(ints k (zs.set j x)).toArray:=by
 simp [ints,List.map_set]
theorem jW{w:World}{g:Nat}{k:IntKind}{zs:List Int}{t:TypeId}(h:w.heap[g]? =some (.cells (ints k zs).toArray t (0,0)))(j:Nat)(x:Int):(w.setCell ⟨g,j,none⟩ (.int k x)).heap[g]? =some (.cells (ints k (zs.set j x)).toArray t (0,0)):=by
 rw [heap_setCell_same _ _ _ _ _ _ h,ints_set]
theorem jx{w:World}{g:Nat}{o:Obj}(h:w.heap[g]? =some o)(a:Addr)(v:Value)(hne:g≠a.block):(w.setCell a v).heap[g]? =some o:=by
 rw [heap_setCell_other _ _ _ _ hne,h]
theorem Tryz.size5:(Tryz.prog.info? 5).map (·.size)=some 1:=by kernel_rfl
structure fF (g:Nat) (w w':World):Prop where
 os:w'.os=w.os
 tape:w'.tape=w.tape
 output:w'.output=w.output
 size:w.heap.size<=w'.heap.size
 block: ∀k,k<w.heap.size->k≠g->w'.heap[k]? =w.heap[k]?
theorem fF.refl(g:Nat)(w:World):fF g w w:=⟨rfl,rfl,rfl,Nat.le_refl _,fun _ _ _=>rfl⟩
theorem fF.trans{g:Nat}{a b c:World}(h:fF g a b)(k:fF g b c):fF g a c:=
 ⟨k.os.trans h.os,k.tape.trans h.tape,k.output.trans h.output,Nat.le_trans h.size k.size,fun i hi hne=>(k.block i (Nat.lt_of_lt_of_le hi h.size) hne).trans (h.block i hi hne)⟩
theorem fF.below{g:Nat}{a b:World}(h:fF g a b)(hg:a.heap.size<=g):Below a.heap.size a b:=⟨h.os,h.tape,h.output,h.size,fun k hk=>h.block k hk (by omega)⟩
theorem fF.xO{g B:Nat}{a b:World}(h:fF g a b)(hg:B<=g)(hB:B<=a.heap.size):Below B a b:=⟨h.os,h.tape,h.output,h.size,fun k hk=>h.block k (by omega) (by omega)⟩
theorem fF.heap{g k:Nat}{a b:World}{o:Obj}(h:fF g a b)(hk:a.heap[k]? =some o)(hne:k≠g):b.heap[k]? =some o:=(h.block k (hlt hk) hne).trans hk
theorem rX{w:World}{g o:Nat}{cur:List Value}{t:TypeId}{vs:List Value}(h:w.heap[g]? =some (.cells cur.toArray t (0,0)))(hfit:o+vs.length<=cur.length)(h1: ∀v∈vs,v.oneCell'=true):
   w.setCells g o vs=w.setRow g (cur.take o++vs++cur.drop (o+vs.length)).toArray:=by
 have a:=run_storeCells_cells (P:=Tryz.prog) g o vs 0 w (fun j hj=>by rw [cell_of_row _ _ _ _ _ _ h,List.getElem?_toArray,List.getElem?_eq_getElem (by omega)];rfl) (fun j hj=>frozen_of_row _ _ _ _ _ h) h1
 have b:=run_storeCells_at (P:=Tryz.prog) g o t vs 0 cur.toArray w h (by simpa using hfit) h1
 rw [a]at b
 simpa using b
def Src(w:World)(sp:Option Addr)(cap:Nat)(zs:List Int):Prop:=
 zs.length<=cap/\cap<=maxLen/\ ∃b o,(0<zs.length->b<w.heap.size)/\(0<zs.length->sp=some ⟨b,o,none⟩)/\ ∀j,j<zs.length->w.cell? ⟨b,o+j,none⟩=some (.int .u8 (zs.getD j 0))
theorem Src.below{w w1:World}{B:Nat}{sp:Option Addr}{cap:Nat}{zs:List Int}(h:Src w sp cap zs)(hb:Below B w w1)(hB:w.heap.size<=B):Src w1 sp cap zs:=by
 obtain⟨h1,h2,b,o,h3,h4,h5⟩:=h
 exact⟨h1,h2,b,o,fun h=>Nat.lt_of_lt_of_le (h3 h) hb.size,h4,fun j hj=>(hb.cell (p:=⟨b,o+j,none⟩) (by show b<B;have:=h3 (by omega);omega)).trans (h5 j hj)⟩
theorem Src.empty(w:World)(sp:Option Addr)(cap:Nat)(h:cap<=maxLen):Src w sp cap []:=⟨by simp,h,0,0,fun h=>by simp at h,fun h=>by simp at h,fun j hj=>by simp at hj⟩
theorem Src.nil(w:World):Src w none 0 []:=Src.empty w none 0 (by simp [maxLen])
def Oy(w:World)(sp:Option Addr)(ps:List (List Int)):Prop:=
 ∃b o,b<w.heap.size/\(0<ps.length->sp=some ⟨b,o,none⟩)/\ ∀r,r<ps.length-> ∃sp' c,w.cell? ⟨b,o+r,none⟩=some (.slice sp' (ps.getD r []).length c)/\(sp'=none->c=0)/\Src w sp' c (ps.getD r [])
theorem Oy.below{w w1:World}{B:Nat}{sp:Option Addr}{ps:List (List Int)}(h:Oy w sp ps)(hb:Below B w w1)(hB:w.heap.size<=B):Oy w1 sp ps:=by
 obtain⟨b,o,h1,h2,h3⟩:=h
 refine⟨b,o,Nat.lt_of_lt_of_le h1 hb.size,h2,fun r hr=>?_⟩
 obtain⟨sp',c,h4,h5,h6⟩:=h3 r hr
 exact⟨sp',c,(hb.cell (p:=⟨b,o+r,none⟩) (by show b<B;omega)).trans h4,h5,h6.below hb hB⟩
def Own(w:World)(base:Nat)(v:Value)(zs:List Int):Prop:=w.ownsRow base 5 1 v zs.length (ints .u8 zs)
theorem Own.nil(w:World)(base:Nat):Own w base (.slice none 0 0) []:=⟨rfl,Or.inl ⟨rfl,rfl⟩⟩
theorem Own.block{w:World}{base:Nat}{v:Value}{zs:List Int}(h:Own w base v zs): ∀k,v.ownBlock=some k->base<=k/\k<w.heap.size:=by
 intro k hk
 rcases h.2 with⟨rfl,_⟩| ⟨g,cap,cur,rfl,hg,hh,_⟩
 · simp [Value.ownBlock]at hk
 · simp [Value.ownBlock]at hk;subst hk;exact⟨hg,hlt hh⟩
theorem Own.of_heap{w w1:World}{base:Nat}{v:Value}{zs:List Int}(h:Own w base v zs)(hk: ∀k,v.ownBlock=some k->w1.heap[k]? =w.heap[k]?):Own w1 base v zs:=by
 refine⟨h.1,?_⟩
 rcases h.2 with h2| ⟨g,cap,cur,rfl,hg,hh,r⟩
 · exact Or.inl h2
 · exact Or.inr ⟨g,cap,cur,rfl,hg,(hk g rfl).trans hh,r⟩
theorem Own.below{w w1:World}{base B:Nat}{v:Value}{zs:List Int}(h:Own w base v zs)(hb:Below B w w1)(hB:w.heap.size<=B):Own w1 base v zs:=
 h.of_heap fun k hv=>hb.block k (by have:=(h.block k hv).2;omega)
theorem Own.form{w:World}{base:Nat}{v:Value}{zs:List Int}(h:Own w base v zs): ∃sp cap,v= .slice sp zs.length cap/\Src w sp cap zs/\(sp=none->cap=0):=by
 obtain⟨h1,⟨rfl,hn⟩| ⟨g,cap,cur,rfl,hg,hh,hc,hm,hs,ht⟩⟩:=h
 · refine⟨none,0,by rw [hn],⟨by omega,by simp [maxLen],0,0,fun h=>by omega,fun h=>by omega,fun j hj=>by omega⟩,fun _=>rfl⟩
 · refine⟨some ⟨g,0,none⟩,cap,rfl,⟨hc,hm,g,0,fun _=>hlt hh,fun _=>rfl,fun j hj=>?_⟩,fun h=>by cases h⟩
   rw [Nat.zero_add,cell_of_row _ _ _ _ _ _ hh]
   have hg2:=fx .u8 zs j hj
   rw [<-ht,List.getElem?_take,if_pos (by omega)]at hg2
   simpa using hg2
theorem dx{w w1:World}{row:Option Nat}{B:Nat}(h:w.grownBy w1 row)(hr: ∀k,row=some k->B<=k)(hB:B<=w.heap.size):Below B w w1:=
 ⟨h.os,h.tape,h.output,h.size,fun k hk=>h.block k (by omega) (fun e=>by have:=hr k e.symm;omega)⟩
theorem Own.rY{w:World}{base:Nat}{v:Value}{xs ys:List Int}(h:w.ownsRow base 5 1 v (xs.length+ys.length) (ints .u8 xs++ints .u8 ys)):Own w base v (xs++ys):=by
 unfold Own;rw [List.length_append,show ints .u8 (xs++ys)=ints .u8 xs++ints .u8 ys by simp [ints]];exact h
theorem Tryz.Oz:(Tryz.prog.info? 5).map (fun i=>(i.zero,i.size,i.bytes))=some (some (.int .u8 0),1,1):=by kernel_rfl
theorem Tryz.info5: ∃i,Tryz.prog.info? 5=some i/\i.zero=some (.int .u8 0)/\i.size=1/\i.bytes=1:=by
 have h:=Tryz.Oz
 cases hq:Tryz.prog.info? 5 with
 | none=>rw [hq]at h;cases h
 | some i=>
   rw [hq]at h
   simp only [Option.map_some,Option.some.injEq,Prod.mk.injEq]at h
   exact⟨i,rfl,h.1,h.2.1,h.2.2⟩
theorem qw{w:World}{sp:Addr}{cap:Nat}{zs:List Int}(h:Src w (some sp) cap zs): ∀j u,(ints .u8 zs)[j]? =some u->w.cell? (sp.add j)=some u:=fun j u hu=>by
 obtain⟨_,_,b,o,_,hsp,hc⟩:=h
 have hj:j<zs.length:=by have:=(List.getElem?_eq_some_iff.1 hu).1;rwa [aI]at this
 rw [fx .u8 zs j hj]at hu
 obtain rfl:=Option.some.inj (hsp (by omega))
 rw [Addr.add_mid,<-hu];exact hc j hj
theorem jy{w:World}{ops:Array Oper}{rest:List Oper}{o:Oper}{a:Act}{Q:Exit->Act->World->Prop}(hgd:o.guard=none)(s x:Operand)
   (ho:o.op= .call {callee:= .builtin .append,args:= #[s,x],argTypes:= #[31,31]})
   (base:Nat) (v:Value) (zs ys:List Int) (hs:a.eval s=v) (hown:Own w base v zs) (sp:Option Addr) (c:Nat) (hx:a.eval x= .slice sp ys.length c) (hnil:sp=none->c=0) (hS:Src w sp c ys)
   (hlen:zs.length+ys.length<=140737488351232) (hbase:base<=w.heap.size)
   (h: ∀v' w',Own w' base v' (zs++ys)->w.grownBy w' v.ownBlock->(v'.ownBlock=v.ownBlock\/v'.ownBlock=some w.heap.size)->wpList Tryz.prog ops Q rest (a.put o.dst v') w'):
   wpList Tryz.prog ops Q (o::rest) a w:=by
 obtain⟨i5,hi5,hz5,hs5,hy5⟩:=Tryz.info5
 cases sp with
 | none=>
   obtain rfl:=hnil rfl
   obtain rfl:ys= []:=List.eq_nil_of_length_eq_zero (by have:=hS.1;omega)
   refine wpList_append_own_none hgd s x 31 ho base 5 i5 1 Tryz.underlying31 hi5 v _ _ hs hown hx (h v w ?_ ⟨rfl,rfl,rfl,Nat.le_refl _,fun _ _ _=>rfl⟩ (Or.inl rfl))
   rw [List.append_nil];exact hown
 | some ad=>
   refine wpList_append_own_at _ hgd s x 31 ho base 5 i5 (.int .u8 0) 1 1 Tryz.underlying31 hi5 hz5 hs5 hy5 rfl Nat.one_pos v zs.length (ints .u8 zs) hs hown ad ys.length c (ints .u8 ys) hx (by rw [aI];omega) (qw hS) (dR _ _) (by unfold maxLen;omega) (by omega) hbase ?_
   intro v' w' h1 h2 _ h4
   exact h v' w' (Own.rY h1) h2 h4
theorem EP{w:World}{base:Nat}{v:Value}{zs:List Int}(h:Own w base v zs)(o:Obj):Own (w.alloc o) base v zs:=h.below ((Below.refl w.heap.size w).alloc (Nat.le_refl _) o) (Nat.le_refl _)
theorem vG{w:World}{ops:Array Oper}{rest:List Oper}{o:Oper}{a:Act}{Q:Exit->Act->World->Prop}(hgd:o.guard=none)(s x:Operand)
   (ho:o.op= .call {callee:= .builtin .append,args:= #[s,x],argTypes:= #[31,31]})
   (base:Nat) (v:Value) (zs:List Int) (y:Int) (hs:a.eval s=v) (hown:Own w base v zs) (hx:a.eval x= .slice (some ⟨w.heap.size,0,none⟩) 1 1)
   (hlen:zs.length+1<=140737488355328) (hbase:base<=w.heap.size) (t:TypeId) (fr:Nat×Nat)
   (h: ∀v' w',Own w' base v' (zs++ [y])->Below base w w'->wpList Tryz.prog ops Q rest (a.put o.dst v') w'):
   wpList Tryz.prog ops Q (o::rest) a (w.alloc (.cells #[.int .u8 y] t fr)):=by
 obtain⟨i5,hi5,hz5,hs5,hy5⟩:=Tryz.info5
 refine wpList_append_own_at _ hgd s x 31 ho base 5 i5 (.int .u8 0) 1 1 Tryz.underlying31 hi5 hz5 hs5 hy5 rfl Nat.one_pos v zs.length (ints .u8 zs) hs (EP hown _) ⟨w.heap.size,0,none⟩ 1 1 (ints .u8 [y]) hx rfl ?_ (dR _ _) (by unfold maxLen;omega) (by omega) (by simp;omega) ?_
 · intro j u hu
   have hj:j=0:=by
     have:=(List.getElem?_eq_some_iff.1 hu).1
     simp [ints]at this;exact this
   subst hj
   rw [show(⟨w.heap.size,0,none⟩:Addr).add 0=⟨w.heap.size,0,none⟩from rfl,cell_of_row _ _ _ _ _ _ (aF w _)]
   simpa [ints]using hu
 · intro v' w' h1 h2 _ h4
   have hB1:Below base w (w.alloc (.cells #[.int .u8 y] t fr)):=(Below.refl _ _).alloc hbase _
   exact h v' w' (Own.rY (ys:= [y]) h1) (hB1.trans (dx h2 (fun k hk=>(hown.block k hk).1) (by simp;omega)))
theorem ER(n:Nat):(madeCells (Value.int IntKind.u8 0).cells n).toList=ints .u8 (dB [] n):=by
 have hz:(Value.int IntKind.u8 0).cells= #[.int .u8 0]:=rfl
 rw [hz]
 apply List.ext_getElem
 · simp [madeCells,ints,dB]
 · intro i h1 h2
   simp [madeCells,ints,dB,Nat.mod_one]
theorem gw{w1:World}{base g n:Nat}(h:w1.ownsRow base 5 1 (.slice (some ⟨g,0,none⟩) n n) n (madeCells (Value.int IntKind.u8 0).cells (n*1)).toList):w1.heap[g]? =some (.cells (ints .u8 (dB [] n)).toArray 5 (0,0)):=by
 obtain⟨h1,⟨hv,_⟩| ⟨g',cap,cur,hv,hg,hh,hc,hm,hs,ht⟩⟩:=h
 · cases hv
 · simp only [Value.slice.injEq,Option.some.injEq,Addr.mk.injEq]at hv
   obtain⟨⟨rfl,_⟩,_,rfl⟩:=hv
   rw [Nat.mul_one,ER]at ht
   rw [hh,<-ht,List.take_of_length_le (by simp [hs])]
theorem below_drewN{B:Nat}{a w:World}(h:Below B a w)(n:Nat):Below B a (w.drewN n):=h.trans ⟨rfl,rfl,rfl,Nat.le_refl _,fun _ _=>rfl⟩
theorem DY{w:World}{g t:Nat}{zs tl:List Int}(h:w.heap[g]? =some (.cells (ints .u8 (zs++tl)).toArray t))(cap:Nat)(hc:zs.length<=cap)(hm:cap<=maxLen):Src w (some ⟨g,0,none⟩) cap zs:=by
 refine⟨hc,hm,g,0,fun _=>hlt h,fun _=>rfl,fun j hj=>?_⟩
 rw [Nat.zero_add,fX h j (by rw [List.length_append];omega),List.getD_eq_getElem?_getD,List.getElem?_append_left hj,List.getD_eq_getElem?_getD]
def Ot(N:Nat)(dz:Option Addr)(g:Nat)(rest:List Value)(os:List Int)(wr:World):Prop:=0<N->dz=some ⟨g,0,none⟩/\wr.heap[g]? =some (.cells (ints .u8 os++rest).toArray 5 (0,0))
theorem Ot.of_heap{N:Nat}{dz:Option Addr}{g:Nat}{rest:List Value}{os:List Int}{w w1:World}(h:Ot N dz g rest os w)(hk: ∀o,w.heap[g]? =some o->w1.heap[g]? =some o):Ot N dz g rest os w1:=fun hp=>⟨(h hp).1,hk _ (h hp).2⟩
theorem Ot.below{N:Nat}{dz:Option Addr}{g:Nat}{rest:List Value}{os:List Int}{w w1:World}(h:Ot N dz g rest os w)(hb:Below w.heap.size w w1):Ot N dz g rest os w1:=h.of_heap fun o ho=>ee hb ho (hlt ho)
theorem Ot.set{N:Nat}{dz:Option Addr}{g:Nat}{rest:List Value}{os:List Int}{w:World}(h:Ot N dz g rest os w)(j:Nat)(x:Int)(hj:j<os.length):Ot N dz g rest (os.set j x) (w.setCell ⟨g,j,none⟩ (.int .u8 x)):=fun hp=>by
 refine⟨(h hp).1,?_⟩
 rw [setCell_eq_setRow w g _ _ _ _ _ (h hp).2,setRow_heap _ _ _ _ _ _ (h hp).2]
 congr 2
 simp only [List.setIfInBounds_toArray]
 rw [List.set_append_left _ _ (by rw [aI];exact hj)]
 simp [ints,List.map_set]
theorem mz{P:Program}{ops:Array Oper}{o:Oper}{a:Act}{w:World}{K:Act->World->Prop}{Q:Exit->Act->World->Prop}{E:Prop}(hgd:o.guard=none)(d s:Operand)(dT sT:TypeId)
   (ho:o.op= .call {callee:= .builtin .copy,args:= #[d,s],argTypes:= #[dT,sT]}) (elem:TypeId) (hu:P.underlying dT=some (.slice elem)) (hsz:(P.info? elem).map (·.size)=some 1)
   (ad:Addr) (dLen dCap sLen sCap:Nat) (g off:Nat) (hd:a.eval d= .slice (some ⟨g,off,none⟩) dLen dCap) (hs:a.eval s= .slice (some ad) sLen sCap)
   (cur:List Value) (t:TypeId) (hg:w.heap[g]? =some (.cells cur.toArray t (0,0))) (cs:List Value) (hn:cs.length=Nat.min sLen dLen)
   (hsrc: ∀j v,cs[j]? =some v->w.cell? (ad.add j)=some v) (hfit:off+cs.length<=cur.length) (h1: ∀v∈cs,v.oneCell'=true)
   (h:K (a.put o.dst (goInt cs.length)) (w.setRow g (cur.take off++cs++cur.drop (off+cs.length)).toArray)):
   if Region.wanted o (yielded ops a.tmps)=true then Oper.wp P o a w K Q else E:=by
 have hw:Region.wanted o (yielded ops a.tmps)=true:=by simp [Region.wanted,hgd]
 rw [if_pos hw]
 have hrun:=run_copy_row (P:=P) w dT sT o.type elem g off dLen dCap ad sLen sCap cur.toArray t cs hu hsz hg hn hsrc (by simpa using hfit) h1
 unfold Oper.wp
 simp [execOp,ho,resolve,invoke,builtin,hd,hs,hrun,Result.andThen]
 rw [Oper.upon_value]
 simpa using h
theorem aG{P:Program}{ops:Array Oper}{rest:List Oper}{o:Oper}{a:Act}{w:World}{Q:Exit->Act->World->Prop}(hw:Region.wanted o (yielded ops a.tmps)=true)(ty:TypeId)(x:Operand)(ho:o.op= .load ty x)
   (g:Nat) (hx:a.eval x= .pointer (some ⟨g,0,none⟩)) (t:TypeId) (cs:Array Value) (fr:Nat×Nat) (d:TypeDesc) (hg:w.heap[g]? =some (.cells cs t fr))
   (hu:P.underlying ty=some d) (hd:(match d with| .struct _| .array _ _=>true| _=>false)=true) (hi:(P.info? ty).map (·.size)=some cs.size)
   (h:wpList P ops Q rest (a.put o.dst (.agg cs)) w):wpList P ops Q (o::rest) a w:=
 BigFrame.wpList_want hw fun _ hK=>wp_load_row ty x ho g hx t cs fr d hg hu hd hi (hK _ _ h)
theorem dQ{P:Program}{ops:Array Oper}{rest:List Oper}{op:Oper}{a:Act}{w:World}{Q:Exit->Act->World->Prop}(hw:Region.wanted op (yielded ops a.tmps)=true)(ty:TypeId)(x:Operand)(ho:op.op= .load ty x)
   (b o:Nat) (hx:a.eval x= .pointer (some ⟨b,o,none⟩)) (cs:List Value) (d:TypeDesc) (hc:w.rangeAt b o cs)
   (hu:P.underlying ty=some d) (hd:d.isRow=true) (hi:(P.info? ty).map (·.size)=some cs.length)
   (h:wpList P ops Q rest (a.put op.dst (.agg cs.toArray)) w):wpList P ops Q (op::rest) a w:=
 BigFrame.wpList_want hw fun _ hK=>wp_load_mid ty x ho b o hx cs d hc hu hd hi (hK _ _ h)
section
variable {P:Program} {md:Region.Mode} {ops:Array Oper} {Q:Exit→Act→World→Prop} {S:World→Prop}
theorem tP{i:Nat}{o:Oper}(h:ops.toList[i]? =some o):ops[i]? =some o:=by rwa [Array.getElem?_toList]at h
theorem aV(i:Nat)(v:Value){oi:Oper}{fuel:Nat}{listed:Array Bool}{a:Act}{w:World}(hi:ops.toList[i]? =some oi)(hy:YieldsIf P ops S oi v a)(hS:S w)
    (h:wpAnyH P md ops Q S fuel (listed.setIfInBounds i true) (a.put oi.dst v) w)
    (hs:Region.noSelect ops=true:=by kernel_rfl) (hf:Region.free md ops listed i=true:=by kernel_rfl) (hr:(Region.ready md ops listed).contains i=true:=by kernel_rfl)
    (hQ: ∀c a w,Q (.panic c) (a.put oi.dst v) w→Q (.panic c) a w:=by exact fun _ _ _ h=>h):wpAnyH P md ops Q S (fuel+1) listed a w:=
  wpAnyH_take (tP hi) hs hf hr hQ hy hS h
theorem ai(i:Nat)(v:Value){oi:Oper}{fuel:Nat}{listed:Array Bool}{a:Act}{w:World}(hi:ops.toList[i]? =some oi)(hS:S w)
    (h:wpAnyH P md ops Q S fuel (listed.setIfInBounds i true) (a.put oi.dst v) w)
    (hy:Region.wanted oi (yielded ops a.tmps)=true:=by rfl) (hz: ∀w,S w→(execOp a.eval oi).run P w= .ok (.value v) w:=by intro w hS;go_simp)
    (hs:Region.noSelect ops=true:=by kernel_rfl) (hf:Region.free md ops listed i=true:=by kernel_rfl) (hr:(Region.ready md ops listed).contains i=true:=by kernel_rfl)
    (hQ: ∀c a w,Q (.panic c) (a.put oi.dst v) w→Q (.panic c) a w:=by exact fun _ _ _ h=>h):wpAnyH P md ops Q S (fuel+1) listed a w:=
  wpAnyH_take (tP hi) hs hf hr hQ (Or.inl ⟨hy,hz⟩) hS h
theorem yA{o:Oper}{v:Value}{a:Act}(h: ∀w,S w→(execOp a.eval o).run P w= .ok (.value v) w)(hw:Region.wanted o (yielded ops a.tmps)=true:=by rfl):YieldsIf P ops S o v a:=Or.inl ⟨hw,h⟩
theorem bR(i:Nat){o:Oper}{fuel:Nat}{listed:Array Bool}{a:Act}{w:World}(ho:ops.toList[i]? =some o)
    (h: ∀K':Act→World→Prop,Shut (∀a w,S w→(S w→wpAnyH P md ops Q S fuel (listed.setIfInBounds i true) a w)→K' a w)→if Region.wanted o (yielded ops a.tmps)=true then Oper.wp P o a w K' Q else K' (a.put o.dst undef) w)
    (hr:Region.ready md ops listed= [i]:=by kernel_rfl):wpAnyH P md ops Q S (fuel+1) listed a w:=
  wpAnyH_ready hr (by simp) (AllReadyH.cons (tP ho) h AllReadyH.nil)
theorem tQ{fuel:Nat}{listed:Array Bool}{a:Act}{w:World}{i:Nat}{o:Oper}{rs:List Nat}(ho:ops.toList[i]? =some o)
    (h: ∀K':Act→World→Prop,Shut (∀a w,S w→(S w→wpAnyH P md ops Q S fuel (listed.setIfInBounds i true) a w)→K' a w)→if Region.wanted o (yielded ops a.tmps)=true then Oper.wp P o a w K' Q else K' (a.put o.dst undef) w)
    (hs:AllReadyH P md ops Q S fuel listed a w rs):AllReadyH P md ops Q S fuel listed a w (i::rs):=AllReadyH.cons (tP ho) h hs
theorem dY{fuel:Nat}{listed:Array Bool}{a:Act}{w:World}(h:Q .normal a w)(hr:Region.ready md ops listed= []:=by kernel_rfl):wpAnyH P md ops (NoPanic Q) S fuel listed a w:=
  wpAnyH_done hr (NoPanic.normal h) _
end
end Go.Proofs.YtpdakmhnnkaafaaGreat
namespace Go.Proofs.YtpdakmhnnkaafaaGreat
set_option maxRecDepth 100000
set_option maxHeartbeats 40000000
set_option linter.unusedVariables false
set_option linter.unusedSimpArgs false
open Go.RowKit
attribute [local go_sem ↓] Go.wp_at_zero Go.wp_at_succ
theorem Gx: ∀n:Int,0<=n->n<2^32->IntKind.u32.wrap n=n:=fun n h h2=>by rw [IntKind.wrap_u32];omega
theorem tR(a b:Nat)(ha:a<4294967296)(hb:b<4294967296):bits .xor .u32 (a:Int) (b:Int)=((a^^^b:Nat):Int):=by
 have hx:a^^^b<2^32:=Nat.xor_lt_two_pow (by omega) (by omega)
 have h1:(BitVec.ofInt 32 (a:Int)).toNat=a:=by
   rw [BitVec.ofInt_natCast,BitVec.toNat_ofNat];exact Nat.mod_eq_of_lt (by omega)
 have h2:(BitVec.ofInt 32 (b:Int)).toNat=b:=by
   rw [BitVec.ofInt_natCast,BitVec.toNat_ofNat];exact Nat.mod_eq_of_lt (by omega)
 show IntKind.u32.wrap ((BitVec.ofInt 32 (a:Int)^^^BitVec.ofInt 32 (b:Int)).toNat:Int)=_
 rw [BitVec.toNat_xor,h1,h2,IntKind.wrap_u32]
 omega
theorem yM(a:Nat)(ha:a<4294967296):bits .and .u32 (a:Int) 15=((a%16:Nat):Int):=by
 have:=bits_mask .u32 32 (by decide) Gx 4 (by decide) (a:Int) (by omega) (by omega)
 simpa using this
theorem xP(a:Nat)(ha:a<4294967296):bits .xor .u32 4294967295 (a:Int)=((inv a:Nat):Int):=tR ones a (by decide) ha
theorem shr4(a:Nat):(a:Int)/(16:Int)=((a>>>4:Nat):Int):=by rw [Nat.shiftRight_eq_div_pow];omega
def hI:List Int:=rQ.map Int.ofNat
theorem Gy(k:Nat):hI.getD k 0=((rQ.getD k 0:Nat):Int):=by
 simp only [hI,List.getD_eq_getElem?_getD,List.getElem?_map]
 cases rQ[k]? <;>rfl
theorem JU(w:World)(r:Nat)(hr:r<4294967296)(zs:List Int)(hb8:aS zs)(sp:Option Addr)(cap:Nat)(hS:Src w sp cap zs):
   Calls Tryz.prog 108 #[.int .u32 r, .slice sp zs.length cap] w fun e w'=>e= .returned (.int .u32 (feed r zs))/\Below w.heap.size w w':=by
 obtain⟨hc,hm,b,o,hb,hsp,hsrc⟩:=hS
 unfold maxLen at hm
 have i0:(zs.length:Int)<=9223372036854775807:=by omega
 go_enter Tryz.func108,Tryz.ntmps108
 go_wp2
 go_loopw [0,11] (fun x i wr=> ∃n:Nat,n<=zs.length/\i= .int .i64 n/\x= .int .u32 (feed r (zs.take n))/\wr.heap[w.heap.size]? =some (Obj.cells (ints .u32 hI).toArray 159)/\Below w.heap.size w wr) (fun _ i _=>zs.length-(intOf i).toNat)
 case atStart=>exact⟨0,by omega,rfl,rfl,aF w _,(Below.refl _ _).alloc (Nat.le_refl _) _⟩
 case round=>
   obtain⟨n,hn,rfl,rfl,hh,hB⟩:=hrel
   by_cases hlt:n<zs.length
   · have i1:(n:Int)<(zs.length:Int):=by omega
     obtain rfl:=hsp (by omega)
     have c0:=(hB.cell (p:=⟨b,o+n,none⟩) (hb (by omega))).trans (hsrc n hlt)
     have DZ:0<=zs.getD n 0/\zs.getD n 0<256:=hb8 _ (by rw [List.getD_eq_getElem?_getD,List.getElem?_eq_getElem hlt];exact List.getElem_mem hlt)
     have hF:=aa (show feed r (zs.take (n+1))=eF 8 (feed r (zs.take n)^^^(zs.getD n 0).toNat) by
       rw [List.take_succ_eq_append_getElem hlt,Gw,List.getD_eq_getElem?_getD,List.getElem?_eq_getElem hlt];rfl)
     have hq:=pO (zs.take n) (fun x hx=>hb8 x (List.mem_of_mem_take hx)) r hr
     generalize feed r (zs.take n)=q at*
     obtain⟨x,hx⟩:=Int.eq_ofNat_of_zero_le DZ.1
     rw [hx]at c0 hF DZ
     have hx2:x<256:=by omega
     clear hx DZ
     obtain⟨q1,hq1⟩: ∃q1,q1=q^^^x:=⟨_,rfl⟩
     have lq1:q1<4294967296:=by rw [hq1];exact pN hq (by omega)
     obtain⟨k1,hk1⟩: ∃k1,k1=q1%16:=⟨_,rfl⟩
     obtain⟨t1,ht1⟩: ∃t1,t1=rQ.getD k1 0:=⟨_,rfl⟩
     have lk1:k1<16:=by omega
     have lt1:t1<4294967296:=by rw [ht1];exact DW k1 lk1
     obtain⟨q2,hq2⟩: ∃q2,q2=(q1>>>4)^^^t1:=⟨_,rfl⟩
     have ls1:q1>>>4<4294967296:=by rw [Nat.shiftRight_eq_div_pow];omega
     have lq2:q2<4294967296:=by rw [hq2];exact pN ls1 lt1
     obtain⟨k2,hk2⟩: ∃k2,k2=q2%16:=⟨_,rfl⟩
     obtain⟨t2,ht2⟩: ∃t2,t2=rQ.getD k2 0:=⟨_,rfl⟩
     have lk2:k2<16:=by omega
     have lt2:t2<4294967296:=by rw [ht2];exact DW k2 lk2
     have ls2:q2>>>4<4294967296:=by rw [Nat.shiftRight_eq_div_pow];omega
     obtain⟨q3,hq3⟩: ∃q3,q3=(q2>>>4)^^^t2:=⟨_,rfl⟩
     have e1:bits .xor .u32 (q:Int) (x:Int)=(q1:Int):=by rw [tR q x hq (by omega),hq1]
     have e2:bits .and .u32 (q1:Int) 15=(k1:Int):=by rw [yM q1 lq1,hk1]
     have e3:bits .xor .u32 ((q1:Int)/16) (t1:Int)=(q2:Int):=by rw [shr4,tR _ _ ls1 lt1,hq2]
     have e4:bits .and .u32 (q2:Int) 15=(k2:Int):=by rw [yM q2 lq2,hk2]
     have e5:bits .xor .u32 ((q2:Int)/16) (t2:Int)=(q3:Int):=by rw [shr4,tR _ _ ls2 lt2,hq3]
     have c1:wr.cell? ⟨w.heap.size,k1,none⟩=some (.int .u32 (t1:Int)):=by rw [fX hh k1 lk1,Gy,<-ht1]
     have c2:wr.cell? ⟨w.heap.size,k2,none⟩=some (.int .u32 (t2:Int)):=by rw [fX hh k2 lk2,Gy,<-ht2]
     have KQ:=aa (show q3=eF 8 (q^^^x) by rw [hq3,ht2,hk2,yJ,hq2,ht1,hk1,yJ,<-yH,hq1])
     clear hq1 hk1 ht1 hq2 hk2 ht2 hq3 ls1 ls2
     have l1:(k1:Int)<16:=by omega
     have l2:(k2:Int)<16:=by omega
     have l3:(q1:Int)<4294967296:=by omega
     have l4:(x:Int)<256:=by omega
     go_wp2
     go_roundw
     case rel=>exact⟨n+1,by omega,by go_num,by rw [hF.out,Int.toNat_natCast,<-KQ.out],hh,hB⟩
     case measure=>simp [intOf];omega
   · obtain rfl:n=zs.length:=by omega
     clear hlt
     rw [List.take_length]
     go_wp2
     go_ret
     exact⟨rfl,hB⟩
theorem Ar(a:Nat)(ha:a<4294967296):bits .xor .u32 IntKind.u32.max (a:Int)=((inv a:Nat):Int):=xP a ha
theorem Nd(w:World)(c:Nat)(hc:c<4294967296)(zs:List Int)(hb8:aS zs)(sp:Option Addr)(cap:Nat)(hS:Src w sp cap zs):
   Calls Tryz.prog 107 #[.int .u32 c, .slice sp zs.length cap] w fun e w'=>e= .returned (.int .u32 (EO c zs))/\Below w.heap.size w w':=by
 have e1:=xP c hc
 have e2:=Ar c hc
 have e3:=xP _ (pO zs hb8 _ (rR hc))
 have e4:=Ar _ (pO zs hb8 _ (rR hc))
 have XH:IntKind.u32.signed=false:=rfl
 go_enter Tryz.func107,Tryz.ntmps107
 go_wp2_with fail
 refine(JU w (inv c) (rR hc) zs hb8 sp cap hS).mono ?_
 rintro e w' ⟨rfl,hB⟩
 go_wp2
 go_ret
 exact⟨rfl,hB⟩
theorem Ea(w:World)(zs:List Int)(hb8:aS zs)(sp:Option Addr)(cap:Nat)(hS:Src w sp cap zs):
   Calls Tryz.prog 105 #[.slice sp zs.length cap] w fun e w'=>e= .returned (.int .u32 (gv zs))/\Below w.heap.size w w':=by
 go_enter Tryz.func105,Tryz.ntmps105
 go_wp2_with fail
 refine(Nd w 0 (by decide) zs hb8 sp cap hS).mono ?_
 rintro e w' ⟨rfl,hB⟩
 go_wp2
 go_ret
 exact⟨rfl,hB⟩
theorem qx{w:World}{g t:Nat}{zs:List Int}{fr:Nat×Nat}(h:w.heap[g]? =some (.cells (ints .u8 zs).toArray t fr))(cap:Nat)(hc:zs.length<=cap)(hm:cap<=maxLen):Src w (some ⟨g,0,none⟩) cap zs:=by
 refine⟨hc,hm,g,0,fun _=>_root_.Go.Proofs.YtpdakmhnnkaafaaGreat.hlt h,fun _=>rfl,fun j hj=>?_⟩
 rw [Nat.zero_add,fX h j hj]
theorem aS.take{l:List Int}(h:aS l)(n:Nat):aS (l.take n):=fun x hx=>h x (List.mem_of_mem_take hx)
theorem aS.drop{l:List Int}(h:aS l)(n:Nat):aS (l.drop n):=fun x hx=>h x (List.mem_of_mem_drop hx)
theorem aq(w:World)(o:Obj):Below w.heap.size w (w.alloc o):=(Below.refl _ _).alloc (Nat.le_refl _) _
theorem kg(w:World)(xs ys:List Int)(sp sq:Option Addr)(c d:Nat)(hX:Src w sp c xs)(hY:Src w sq d ys):
   Calls Tryz.prog 9 #[.slice sp xs.length c, .slice sq ys.length d] w fun e w'=>e= .returned (.bool (decide (xs=ys)))/\Below w.heap.size w w':=by
 obtain⟨hc,hm,b,o,hb,hsp,hsrc⟩:=hX
 obtain⟨hc',Vb,b',o',hb',Ug,hsrc'⟩:=hY
 unfold maxLen at hm Vb
 by_cases hl:xs.length=ys.length
 · have hl1:((xs.length:Int) !=(ys.length:Int))=false:=by simpa using(by omega:(xs.length:Int)=(ys.length:Int))
   have HL:=aa hl
   have i0:(xs.length:Int)<=9223372036854775807:=by omega
   clear hl
   go_enter Tryz.func9,Tryz.ntmps9
   go_wp2
   go_loopw [5] (fun i wr=> ∃k:Nat,k<=xs.length/\i= .int .i64 k/\xs.take k=ys.take k/\Below w.heap.size w wr) (fun i _=>xs.length-(intOf i).toNat)
   case atStart=>exact⟨0,by omega,rfl,rfl,Below.refl _ _⟩
   case round=>
     obtain⟨k,hk,rfl,hT,hB⟩:=hrel
     replace hT:=aa hT
     by_cases hlt:k<xs.length
     · have i1:(k:Int)<(xs.length:Int):=by omega
       have rZ:k<ys.length:=by have:=HL.out;omega
       have i2:(k:Int)<(ys.length:Int):=by omega
       obtain rfl:=hsp (by omega)
       obtain rfl:=Ug (by omega)
       have c1:=(hB.cell (p:=⟨b,o+k,none⟩) (hb (by omega))).trans (hsrc k hlt)
       have c2:=(hB.cell (p:=⟨b',o'+k,none⟩) (hb' (by omega))).trans (hsrc' k rZ)
       have HX:=aa (show xs.take (k+1)=xs.take k++ [xs.getD k 0] by
         rw [List.take_succ_eq_append_getElem hlt,List.getD_eq_getElem?_getD,List.getElem?_eq_getElem hlt];rfl)
       have HY:=aa (show ys.take (k+1)=ys.take k++ [ys.getD k 0] by
         rw [List.take_succ_eq_append_getElem rZ,List.getD_eq_getElem?_getD,List.getElem?_eq_getElem rZ];rfl)
       by_cases hxy:xs.getD k 0=ys.getD k 0
       · rw [hxy]at c1 HX
         clear hxy
         generalize ys.getD k 0=y at*
         go_wp2
         go_region_held3 (fun w'=>w'.cell? ⟨b,o+k,none⟩=some (.int .u8 y)/\w'.cell? ⟨b',o'+k,none⟩=some (.int .u8 y)) (go_keep) (fail)
         go_wp2
         go_roundw
         case rel=>exact⟨k+1,by omega,by go_num,(by rw [HX.out,HY.out,hT.out]),hB.drew⟩
         case measure=>simp [intOf];omega
       · have HF:=aa (show decide (xs=ys)=false from decide_eq_false (fun h=>hxy (by rw [h])))
         generalize ys.getD k 0=y at*
         generalize xs.getD k 0=x at*
         have WT:(x !=y)=true:=by simpa using hxy
         go_wp2
         go_region_held3 (fun w'=>w'.cell? ⟨b,o+k,none⟩=some (.int .u8 x)/\w'.cell? ⟨b',o'+k,none⟩=some (.int .u8 y)) (go_keep) (fail)
         go_wp2
         go_ret
         exact⟨by rw [HF.out];rfl,hB.drew⟩
     · obtain rfl:k=xs.length:=by omega
       have HT:=aa (show decide (xs=ys)=true from decide_eq_true (by
         have:=hT.out
         rw [List.take_length,HL.out,List.take_length]at this
         exact this))
       clear hlt
       go_wp2
       go_ret
       exact⟨by rw [HT.out];rfl,hB⟩
 · have HF:=aa (show decide (xs=ys)=false from decide_eq_false (fun h=>hl (by rw [h])))
   have hl':((xs.length:Int) !=(ys.length:Int))=true:=by simpa using(by omega: ¬(xs.length:Int)=(ys.length:Int))
   clear hl
   go_enter Tryz.func9,Tryz.ntmps9
   go_wp2
   go_ret
   exact⟨by rw [HF.out];rfl,Below.refl _ _⟩
theorem Tryz.size153:(Tryz.prog.info? 153).map (·.size)=some 4:=by kernel_rfl
def jA(s:Nat):List Int:= [(s:Int)%256,(s:Int)/256%256,(s:Int)/65536%256,(s:Int)/16777216%256]
theorem pP(s:Nat):(jA s).length=4:=rfl
theorem Au(s:Nat):aS (jA s):=fun x hx=>by simp [jA]at hx;omega
def jL(zs:List Int):List Int:=zs++jA (gv zs)
theorem yN(zs:List Int):(jL zs).length=zs.length+4:=by simp [jL,pP]
theorem vH{zs:List Int}(h:aS zs):aS (jL zs):=fun x hx=>by
 rcases List.mem_append.1 hx with h1| h1
 · exact h x h1
 · exact Au _ x h1
theorem GA(w:World)(s:Nat)(hs:s<4294967296):
   Calls Tryz.prog 104 #[.int .u32 s] w fun e w'=>e= .returned (.agg (ints .u8 (jA s)).toArray)/\Below w.heap.size w w':=by
 have HE:=aa (show(#[Value.int IntKind.u8 ((s:Int)%256),Value.int IntKind.u8 ((s:Int)/256%256),Value.int IntKind.u8 ((s:Int)/65536%256),Value.int IntKind.u8 ((s:Int)/16777216)]:Array Value)=(ints .u8 (jA s)).toArray by
   simp [ints,jA];omega)
 go_enter Tryz.func104,Tryz.ntmps104
 go_wp2
 rw [HE.out]
 exact bodyPost_ret (v:= .agg (ints .u8 (jA s)).toArray) (results_cell_row Tryz.results104 _ _ w.heap.size 153 _ _ _ rfl (aF w _) Tryz.underlying153 rfl (by rw [Tryz.size153,dP,pP])) rfl ⟨rfl,aq w _⟩
theorem Av(w:World)(zs:List Int)(hb8:aS zs)(sp:Option Addr)(cap:Nat)(hS:Src w sp cap zs)(hlen:zs.length<=140737488355000):
   Calls Tryz.prog 96 #[.slice sp zs.length cap] w fun e w'=>e= .returned (.slice (some ⟨w.heap.size,0,none⟩) (zs.length+4) (zs.length+4))/\w'.heap[w.heap.size]? =some (.cells (ints .u8 (jL zs)).toArray 5 (0,0))/\Below w.heap.size w w':=by
 obtain⟨i5,hi5,hz5,hs5,hy5⟩:=Tryz.info5
 have vI:=hS
 obtain⟨hc,hm,b,o,hb,hsp,hsrc⟩:=hS
 have HI:=aa hi5
 clear hi5
 have i1:(zs.length:Int)<=140737488355000:=by omega
 have K1:=aa (show i5.bytes*(zs.length+4)<=281474976710656 by rw [hy5];omega)
 have K2:=aa (show zs.length+4<=maxLen by unfold maxLen;omega)
 have hcs:(ints .u8 zs).length=Nat.min zs.length (zs.length+4):=by rw [aI];exact(Nat.min_eq_left (by omega)).symm
 have OA:(ints .u8 zs).length=Nat.min (zs.length+4) zs.length:=by rw [aI];exact(Nat.min_eq_right (by omega)).symm
 have KC:=aa hcs
 have Vc:=aa OA
 have KF:=aa (show 0+(ints .u8 zs).length<=(ints .u8 (dB [] (zs.length+4))).length by rw [aI,aI,qu _ _ (by simp)];omega)
 have KO:=aa (dR .u8 zs)
 have KP: ∀w1:World,Below w.heap.size w w1->0<(ints .u8 zs).length-> ∃ad,sp=some ad/\ ∀j v,(ints .u8 zs)[j]? =some v->w1.cell? (ad.add j)=some v:=by
   intro w1 hB hpos
   rw [aI]at hpos
   refine⟨_,hsp hpos,fun j v hv=>?_⟩
   have hj:j<zs.length:=by have:=(List.getElem?_eq_some_iff.1 hv).1;rwa [aI]at this
   rw [fx .u8 zs j hj]at hv
   cases hv
   rw [show(⟨b,o,none⟩:Addr).add j=⟨b,o+j,none⟩ by simp [Addr.add]]
   exact(hB.cell (p:=⟨b,o+j,none⟩) (hb hpos)).trans (hsrc j hj)
 have Sa:=aa KP
 have nj:splice (ints .u8 (dB [] (zs.length+4))) 0 (ints .u8 zs)=ints .u8 (dB zs (zs.length+4)):=by
   simp [splice,ints,dB]
 have KS:=aa nj
 clear nj hcs KP OA
 have ls:=tO hb8
 go_enter Tryz.func96,Tryz.ntmps96
 go_wp2_with (first
   | (refine wpList_make_full _ rfl _ _ 31 rfl w.heap.size 5 i5 (.int .u8 0) 1 Tryz.underlying31 HI.out hz5 hs5 .i64 .i64 _ _ (zs.length+4) rfl rfl (by push_cast;rfl) (by push_cast;rfl) K1.out K2.out (Nat.le_refl _) ?_;intro w1 hO1 hg1;have hB1:=dx hg1 (fun k hk=>by cases hk) (Nat.le_refl w.heap.size);have hr1:=gw hO1;clear hg1 hO1)
   | (refine wpList_copy_splice rfl (.tmp 9) (.tmp 10) 31 31 rfl 5 Tryz.underlying31 Tryz.size5 (some ⟨w.heap.size,0,none⟩) sp (zs.length+4) (zs.length+4) zs.length cap rfl rfl w.heap.size 0 (ints .u8 (dB [] (zs.length+4))) 5 hr1 (ints .u8 zs) KC.out (fun h=>⟨rfl,Sa.out _ hB1 h⟩) KF.out KO.out w.heap.size w hB1 (Nat.le_refl _) ?_;intro w2 hr2 hB2))
 rw [KS.out]at hr2
 clear hr1 hB1 KC KF KO Sa KS K1 Vc
 refine(Ea w2 zs hb8 sp cap (vI.below hB2 (Nat.le_refl _))).mono ?_
 rintro e w3 ⟨rfl,b3⟩
 have r3:=ee b3 hr2.out (hlt hr2.out)
 have B3:=hB2.trans (b3.mono hB2.size)
 clear hr2 hB2 b3
 go_wp2_with fail
 refine(GA w3 (gv zs) ls).mono ?_
 rintro e w4 ⟨rfl,b4⟩
 have r4:=ee b4 r3 (hlt r3)
 have B4:=B3.trans (b4.mono B3.size)
 clear r3 B3 b4
 have nj:=pP (gv zs)
 have K3:=aa (show(Tryz.prog.info? 153).map (·.size)=some (ints .u8 (jA (gv zs))).toArray.size by rw [Tryz.size153,dP,nj])
 have ho:=all_oneCell_toArray (dR .u8 (jA (gv zs)))
 replace nj:=aa nj
 have HS:=aa (show jL zs=zs++jA (gv zs)from rfl)
 generalize jA (gv zs)=sb at*
 have K4:=aa (show(ints .u8 (dB [] 4)).toArray.size=(ints .u8 sb).toArray.size by rw [dP,dP,nj.out];rfl)
 have hne: ¬(zs.length+4=zs.length):=by omega
 have i2:(zs.length:Int)<=(zs.length:Int)+4:=by omega
 have hG:w.heap.size<w4.heap.size:=hlt r4
 have rA:=hold (o:=Obj.cells (ints .u8 sb).toArray 153 (0,0)) r4
 have rS:=aF w4 (Obj.cells (ints .u8 sb).toArray 153 (0,0))
 have BA:Below w.heap.size w (w4.alloc (Obj.cells (ints .u8 sb).toArray 153 (0,0))):=B4.alloc B4.size _
 go_wp2_with (first| (refine wpList_store_row rfl 153 _ _ rfl _ _ rfl rfl 153 _ (by exact aF _ _) K3.out (by exact K4.out) ho ?_;rw [aP];generalize w4.alloc (Obj.cells (ints .u8 sb).toArray 153 (0,0))=w5 at*;generalize w4.heap.size=G at*))
 simp only [Act.put]
 have HY:=aa (show(ints .u8 sb).length=Nat.min 4 4 by rw [aI,nj.out];rfl)
 have Sb:w5.drew.heap[w.heap.size]? =some (.cells (ints .u8 (dB zs (zs.length+4))).toArray 5 (0,0)):=rA
 have LZ: ∀j v,(ints .u8 sb)[j]? =some v->w5.drew.cell? (Addr.add ⟨G,0,none⟩ j)=some v:=fun j v hv=>by
   rw [Addr.add_mid,Nat.zero_add]
   show w5.cell? _=_
   rw [cell_of_row _ _ _ _ _ _ rS];simpa using hv
 have Uh:=aa LZ
 have hfit:zs.length+(ints .u8 sb).length<=(ints .u8 (dB zs (zs.length+4))).length:=by rw [aI,aI,nj.out,qu _ _ (by omega)];exact Nat.le_refl _
 have Ui:=aa hfit
 have Uj:=aa (dR .u8 sb)
 have Uk:=aa (show((ints .u8 (dB zs (zs.length+4))).take zs.length++ints .u8 sb++(ints .u8 (dB zs (zs.length+4))).drop (zs.length+(ints .u8 sb).length))=ints .u8 (jL zs) by
   rw [HS.out,aI,nj.out,List.drop_of_length_le (by rw [aI,qu _ _ (by omega)];exact Nat.le_refl _),List.append_nil]
   simp [ints,dB])
 clear LZ hfit rS
 go_region_held3 (fun w'=>True) (trivial) (first| (refine mz ?_ (.tmp 18) (.tmp 19) 31 31 ?_ 5 Tryz.underlying31 Tryz.size5 ⟨G,0,none⟩ 4 4 4 4 w.heap.size zs.length ?_ ?_ (ints .u8 (dB zs (zs.length+4))) 5 ?_ (ints .u8 sb) HY.out Uh.out Ui.out Uj.out ?_;rfl;rfl;rfl;rfl;exact Sb))
 rw [Uk.out]
 have rF:=setRow_heap w5.drew w.heap.size _ (ints .u8 (jL zs)).toArray _ _ Sb
 have BF:=below_setRow BA.drew (Nat.le_refl _) (ints .u8 (jL zs)).toArray
 go_wp2
 go_ret
 exact⟨rfl,rF,BF⟩
end Go.Proofs.YtpdakmhnnkaafaaGreat

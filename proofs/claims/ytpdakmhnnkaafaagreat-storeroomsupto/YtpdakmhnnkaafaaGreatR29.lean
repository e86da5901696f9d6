import Derived.Test.YtpdakmhnnkaafaaGreatR28
import Derived.WalkKit
import Derived.ProofKit
import Derived.OpenShut
import Derived.SizedLaws
import Derived.Deep.DeepHandedRow
import Derived.Lib.LaidTab
import Derived.Deep.Slices
namespace Go.Proofs.YtpdakmhnnkaafaaGreat
set_option maxRecDepth 100000
set_option maxHeartbeats 40000000
set_option linter.unusedVariables false
set_option linter.unusedSimpArgs false
open Go.ChangeShapes Go.WideShapes Go.ChangeAt Go.RowKit
theorem LQ:ownKnob Tryz.prog.godebug=none:=by kernel_rfl
theorem Tryz.laidOut:laidOutB Tryz.prog=true:=by kernel_rfl
theorem cells5:Tryz.prog.cellsOf 5=1:=by kernel_rfl
theorem LU{a:Int}(h:(Lit.int .u32 a).wf=true): ∃n:Nat,a=(n:Int)/\n<4294967296:=by
 have:=bounds_u32 h
 obtain⟨n,hn⟩:=Int.eq_ofNat_of_zero_le this.1
 exact⟨n,hn,by omega⟩
theorem Gt{H:Type}{l:List (DataW H)}(hk:Rows.uptoSmall H l=true):Rows.uptoBulkAll l<=1048576:=of_decide_eq_true hk
theorem zS{H:Type}(k:IntKind): ∀zs:List Int,Rows.uptoBulkAll (lits (H:=H) k zs)=zs.length
 | []=>by simp [lits,Rows.uptoBulkAll]
 | z::zs=>by have:=zS (H:=H) k zs;simp only [lits,List.map_cons,Rows.uptoBulkAll,Rows.uptoBulk,List.length_cons]at this⊢;omega
theorem qq(l:List Value)(n m:Nat):l.drop n=(l.drop n).take m++l.drop (n+m):=by
 have:=(List.take_append_drop m (l.drop n)).symm
 rwa [List.drop_drop]at this
theorem LW{l:List Value}{n:Nat}(h:n<l.length): ∃sv,(l.drop n).take 1= [sv]:=by
 rw [List.take_one,List.head?_drop,List.getElem?_eq_getElem h];exact⟨_,rfl⟩
theorem LX{H:Type}(d:DataW H):1<=Rows.uptoBulk d:=by
 cases d with
 | lit l=>cases l<;>simp [Rows.uptoBulk]
 | _=>simp [Rows.uptoBulk]
theorem vE{H:Type}: ∀{l:List (DataW H)} {d:DataW H},d∈l->Rows.uptoBulk d<=Rows.uptoBulkAll l
 | x::l,d,hd=>by
   simp only [Rows.uptoBulkAll]
   rcases List.mem_cons.1 hd with rfl| h
   · omega
   · have:=vE h;omega
theorem CP{H:Type}: ∀l:List (DataW H),l.length<=Rows.uptoBulkAll l
 | []=>by simp [Rows.uptoBulkAll]
 | x::l=>by have:=CP l;have:=LX x;simp only [Rows.uptoBulkAll,List.length_cons];omega
theorem JQ{H:Type}{xs:List (DataW H×List MemPlace)}{j:Nat}(hj:j<xs.length):Rows.uptoBulk (xs[j]).1<=Rows.uptoBulk (.agg (xs.map (·.1))):=by
 have:=vE (List.mem_map.2 ⟨xs[j],List.getElem_mem hj,rfl⟩:(xs[j]).1∈xs.map (·.1))
 simp only [Rows.uptoBulk];omega
section
variable {H:Type} {enc:TypeId×Value->H} {W:World}
theorem DU{fuel:Nat}{v:Value}{d:DataW H}{p:List MemPlace}(hf:DataW.trod enc Tryz.prog W 0 (fun _=>true) true fuel 31 [v]=some (d,p)):
   ∃(zs:List Int) (sp:Option Addr) (cap:Nat),v= .slice sp zs.length cap/\aS zs/\Src W sp cap zs/\(sp=none->cap=0)/\zs.length<=Rows.uptoBulk d:=by
 rcases open_ints Tryz.underlying31 Tryz.underlying5 cells5 hf with⟨hcs,hx⟩| ⟨a,len,cap,zs,hcs,_,hl,hm,hz,hx,hcell,hwz⟩
 · simp at hcs
   subst hcs
   exact⟨[],none,0,rfl,fun x hx=>by simp at hx,Src.nil W,fun _=>rfl,by simp⟩
 · simp at hcs
   subst hcs
   have hzl:zs.length=cap:=by simpa using hz
   have kQ:(zs.take len).length=len:=by rw [List.length_take];omega
   refine⟨zs.take len,some a,cap,by rw [kQ],fun x hx=>?_,⟨by rw [kQ];exact hl,hm,?_⟩,(fun h=>by cases h),?_⟩
   · have:=bounds_u8 (hwz x (List.mem_of_mem_take hx))
     omega
   · rw [kQ]
     by_cases hL:0<len
     · have hc0:=hcell 0 (by omega)
       have hsp:a.spot=none:=by have:=World.cell?_spot hc0;unfold Addr.add at this;split at this<;>simp_all
       obtain⟨b,o,spot⟩:=a
       obtain rfl:spot=none:=hsp
       refine⟨b,o,fun _=>by have:=block_lt_of_cell hc0;rwa [Addr.add_mid]at this,fun _=>rfl,fun j hj=>?_⟩
       have:=hcell j (by omega)
       rw [Addr.add_mid]at this
       rw [this]
       congr 2
       simp [List.getElem?_take,hj]
     · exact⟨0,0,fun h=>by omega,fun h=>by omega,fun j hj=>by omega⟩
   · rw [kQ]
     simp only [Prod.mk.injEq]at hx
     rw [hx.1]
     simp only [Rows.uptoBulk,zS]
     omega
theorem LY{fuel:Nat}{v:Value}{d:DataW H}{p:List MemPlace}(hb:Rows.uptoBulk d<=1048576)(hf:DataW.trod enc Tryz.prog W 0 (fun _=>true) true fuel 22 [v]=some (d,p)):
   ∃(os:List LO) (sp:Option Addr) (cap:Nat),v= .slice sp os.length cap/\TZ W W.heap.size sp os/\os.length<=cap/\os.length<=1048576:=by
 rcases Deep.open_slice Tryz.underlying22 hf with⟨hcs,hx⟩| ⟨a,len,cap,m,n,D,Pl,hcs,_,hl,hm,AK,hx,hrow⟩
 · simp at hcs
   subst hcs
   exact⟨[],none,0,rfl,⟨0,0,fun h=>by simp at h,fun i hi=>by simp at hi⟩,by decide,by decide⟩
 · simp at hcs
   subst hcs
   simp only [Prod.mk.injEq]at hx
   obtain⟨rfl,_⟩:=hx
   simp only [if_true]at AK
   subst AK
   simp only [Rows.uptoBulk]at hb
   have yS:len<=1048576:=by
     have:=CP ((List.range len).map D)
     simp only [List.length_map,List.length_range]at this
     omega
   have each: ∀i,i<len-> ∃q:LO,∃tp tc,(∀j u,(Rk q tp tc)[j]? =some u->W.cell? (a.add (i*6+j))=some u)/\Src W tp tc q.zs/\(0<q.zs.length-> ∀x,tp=some x->x.block<W.heap.size)/\aS q.zs/\q.zs.length<=140737488352000/\(-9223372036854775808<=q.at_/\q.at_<=9223372036854775807)/\q.n<=9223372036854775807:=by
     intro i hi
     obtain⟨cs',h1,h2⟩:=hrow i (by omega)
     rw [show Tryz.prog.cellsOf 38=6 by kernel_rfl]at h1
     obtain⟨_,hlen,hcell⟩:=World.cells?_some h1
     obtain⟨xs,k,hk,hxy,_,hxl,EM⟩:=DataW.trod_struct Tryz.underlying38 h2
     have hd:=vE (List.mem_map.2 ⟨i,List.mem_range.2 hi,rfl⟩:D i∈(List.range len).map D)
     have XF:xs.length=6:=hxl
     simp only [Prod.mk.injEq]at hxy
     have hb4:=JQ (xs:=xs) (j:=4) (by omega)
     rw [<-hxy.1]at hb4
     have g0:DataW.trod enc Tryz.prog W 0 (fun _=>true) true k 3 ((cs'.drop 0).take 1)=some xs[0]:=by
       have:=EM 0 _ rfl
       rw [List.getElem?_eq_getElem (by omega)]at this
       change DataW.trod enc Tryz.prog W 0 (fun _=>true) true k 3 ((cs'.drop 0).take (Tryz.prog.cellsOf 3))=_ at this
       rw [show Tryz.prog.cellsOf 3=1 by kernel_rfl]at this;exact this
     have g1:DataW.trod enc Tryz.prog W 0 (fun _=>true) true k 3 ((cs'.drop 1).take 1)=some xs[1]:=by
       have:=EM 1 _ rfl
       rw [List.getElem?_eq_getElem (by omega)]at this
       change DataW.trod enc Tryz.prog W 0 (fun _=>true) true k 3 ((cs'.drop 1).take (Tryz.prog.cellsOf 3))=_ at this
       rw [show Tryz.prog.cellsOf 3=1 by kernel_rfl]at this;exact this
     have g2:DataW.trod enc Tryz.prog W 0 (fun _=>true) true k 3 ((cs'.drop 2).take 1)=some xs[2]:=by
       have:=EM 2 _ rfl
       rw [List.getElem?_eq_getElem (by omega)]at this
       change DataW.trod enc Tryz.prog W 0 (fun _=>true) true k 3 ((cs'.drop 2).take (Tryz.prog.cellsOf 3))=_ at this
       rw [show Tryz.prog.cellsOf 3=1 by kernel_rfl]at this;exact this
     have g3:DataW.trod enc Tryz.prog W 0 (fun _=>true) true k 3 ((cs'.drop 3).take 1)=some xs[3]:=by
       have:=EM 3 _ rfl
       rw [List.getElem?_eq_getElem (by omega)]at this
       change DataW.trod enc Tryz.prog W 0 (fun _=>true) true k 3 ((cs'.drop 3).take (Tryz.prog.cellsOf 3))=_ at this
       rw [show Tryz.prog.cellsOf 3=1 by kernel_rfl]at this;exact this
     have g4:DataW.trod enc Tryz.prog W 0 (fun _=>true) true k 31 ((cs'.drop 4).take 1)=some xs[4]:=by
       have:=EM 4 _ rfl
       rw [List.getElem?_eq_getElem (by omega)]at this
       change DataW.trod enc Tryz.prog W 0 (fun _=>true) true k 31 ((cs'.drop 4).take (Tryz.prog.cellsOf 31))=_ at this
       rw [show Tryz.prog.cellsOf 31=1 by kernel_rfl]at this;exact this
     have g5:DataW.trod enc Tryz.prog W 0 (fun _=>true) true k 36 ((cs'.drop 5).take 1)=some xs[5]:=by
       have:=EM 5 _ rfl
       rw [List.getElem?_eq_getElem (by omega)]at this
       change DataW.trod enc Tryz.prog W 0 (fun _=>true) true k 36 ((cs'.drop 5).take (Tryz.prog.cellsOf 36))=_ at this
       rw [show Tryz.prog.cellsOf 36=1 by kernel_rfl]at this;exact this
     obtain⟨z0,e0,_,b0⟩:=DataW.trod_int Tryz.underlying3 g0
     obtain⟨z1,e1,_,b1⟩:=DataW.trod_int Tryz.underlying3 g1
     obtain⟨z2,e2,_,b2⟩:=DataW.trod_int Tryz.underlying3 g2
     obtain⟨z3,e3,_,b3⟩:=DataW.trod_int Tryz.underlying3 g3
     obtain⟨sv,e4⟩:=LW (l:=cs') (n:=4) (by omega)
     rw [e4]at g4
     obtain⟨val,sp,cap',rfl,yv,hS,hnil,hvl⟩:=DU (d:=(xs[4]).1) (p:=(xs[4]).2) g4
     obtain⟨z5,e5,_,b5⟩:=DataW.trod_int Tryz.underlying36 g5
     obtain⟨n5,rfl,l5⟩:=LU b5
     have hcs:cs'=Rk ⟨z0,z1,z2,z3,val,n5⟩ sp cap':=by
       have:cs'= [.int .i64 z0]++([.int .i64 z1]++([.int .i64 z2]++([.int .i64 z3]++([.slice sp val.length cap']++([.int .u32 n5]++cs'.drop 6))))):=by
         rw [<-e0,<-e1,<-e2,<-e3,<-e4,<-e5,<-qq cs' 5 1,<-qq cs' 4 1,<-qq cs' 3 1,<-qq cs' 2 1,<-qq cs' 1 1,<-qq cs' 0 1];rfl
       rw [List.drop_of_length_le (by omega:cs'.length<=6),List.append_nil]at this
       exact this
     refine⟨⟨z0,z1,z2,z3,val,n5⟩,sp,cap',fun j u hu=>?_,hS,fun hp x hx=>?_,yv,by show val.length<=_;omega,bounds_i64 b1,(bounds_i64 b2).2⟩
     · rw [<-hcs]at hu
       have hj:=(List.getElem?_eq_some_iff.1 hu).1
       have:=hcell j (by omega)
       rw [Deep.add_add]at this
       rw [this,hu]
     · obtain⟨_,_,b,o,h3,h4,_⟩:=hS
       rw [h4 hp]at hx;cases hx;exact h3 hp
   haveI:Inhabited LO:=⟨dO⟩
   obtain⟨q,hq⟩:=Deep.choose_lt (α:=LO) each
   have gm: ∀i,i<len->((List.range len).map q).getD i dO=q i:=fun i hi=>by simp [hi]
   have hlen:((List.range len).map q).length=len:=by simp
   by_cases hz:0<len
   · obtain⟨tp,tc,c0,_⟩:=hq 0 hz
     have c00:=c0 0 _ rfl
     have hsp:a.spot=none:=by
       have:=World.cell?_spot c00
       unfold Addr.add at this;split at this<;>simp_all
     obtain⟨b,o,spot⟩:=a
     obtain rfl:spot=none:=hsp
     have hblk:b<W.heap.size:=by
       have:=block_lt_of_cell c00;rwa [Addr.add_mid]at this
     refine⟨(List.range len).map q,some ⟨b,o,none⟩,m,by rw [hlen],⟨b,o,fun _=>⟨hblk,rfl⟩,fun i hi=>?_⟩,by rw [hlen];exact hl,by rw [hlen];exact yS⟩
     rw [hlen]at hi
     rw [gm i hi]
     obtain⟨tp,tc,e1,e2,e3,e4,e5⟩:=hq i hi
     refine⟨tp,tc,fun j u hu=>?_,e2,e3,e4,e5⟩
     have:=e1 j u hu
     rw [Addr.add_mid,<-Nat.add_assoc]at this
     exact this
   · exact⟨(List.range len).map q,some a,m,by rw [hlen],⟨0,0,fun h=>by rw [hlen]at h;omega,fun i hi=>by rw [hlen]at hi;omega⟩,by rw [hlen];exact hl,by rw [hlen];exact yS⟩
end
theorem rO(H:Type)(enc:TypeId×Value->H)(W:World)(base:Nat)(args:Array Value)(ds gs:List (DataW H))(before:List MemPlace)
   (hval: ∀(j:Nat) t v,Tryz.f3.params[j]? =some t->args[j]? =some v->Value.okWide Tryz.prog W .any base t v)
   (hW:DataW.Whole enc Tryz.prog Tryz.f3.params.toList Rows.storeRoomsSpec.vars false W args.toList ds gs before) (hbk:Rows.uptoBulkAll (ds++gs)<=1048576):
   Calls Tryz.prog 3 args W fun e W'=> ∃v,e= .returned v/\Rows.storeRoomsSpec.post enc Tryz.prog Tryz.f3 false true false false W args v W':=by
 have hW':=hW
 obtain⟨p,q,hA0,hV,rfl,hfz,hnd⟩:=hW
 have hA:DataW.TrodAll enc Tryz.prog W 0 (fun _=>true) true Tryz.f3.params.toList args.toList ds p:=hA0
 rw [Tryz.params3]at hA hval
 obtain⟨v0,vs0,d0,ds0,p0,q0,hargs,rfl,rfl,h0,r0⟩:=trodAll_cons hA
 obtain⟨v1,vs1,d1,ds1,p1,q1,rfl,rfl,rfl,h1,r1⟩:=trodAll_cons r0
 obtain⟨v2,vs2,d2,ds2,p2,q2,rfl,rfl,rfl,h2,r2⟩:=trodAll_cons r1
 obtain⟨v3,vs3,d3,ds3,p3,q3,rfl,rfl,rfl,h3,r3⟩:=trodAll_cons r2
 obtain⟨v4,vs4,d4,ds4,p4,q4,rfl,rfl,rfl,h4,r4⟩:=trodAll_cons r3
 obtain⟨rfl,rfl,rfl⟩:=trodAll_nil r4
 obtain rfl:args= #[v0,v1,v2,v3,v4]:=by cases args;simp_all
 obtain⟨rfl,rfl⟩:=trodVars_none hV
 have k0:=h0
 have lt0: ∀x∈p0,x.block<W.heap.size:=by obtain⟨m,hm⟩:=k0;exact DataW.trod_lt m _ _ _ hm
 have k1:=h1
 have lt1: ∀x∈p1,x.block<W.heap.size:=by obtain⟨m,hm⟩:=k1;exact DataW.trod_lt m _ _ _ hm
 have k2:=h2
 have lt2: ∀x∈p2,x.block<W.heap.size:=by obtain⟨m,hm⟩:=k2;exact DataW.trod_lt m _ _ _ hm
 have k3:=h3
 have lt3: ∀x∈p3,x.block<W.heap.size:=by obtain⟨m,hm⟩:=k3;exact DataW.trod_lt m _ _ _ hm
 have k4:=h4
 have lt4: ∀x∈p4,x.block<W.heap.size:=by obtain⟨m,hm⟩:=k4;exact DataW.trod_lt m _ _ _ hm
 obtain⟨a0,rfl,rfl,rfl,wf0⟩:=open_int Tryz.underlying3 (hval 0 3 v0 rfl rfl) h0
 have bd0:=bounds_i64 wf0
 obtain⟨a1,rfl,rfl,rfl,wf1⟩:=open_int Tryz.underlying3 (hval 1 3 v1 rfl rfl) h1
 have bd1:=bounds_i64 wf1
 obtain⟨a2,rfl,rfl,rfl,wf2⟩:=open_int Tryz.underlying3 (hval 2 3 v2 rfl rfl) h2
 have bd2:=bounds_i64 wf2
 obtain⟨a3,rfl,rfl,rfl,wf3⟩:=open_int Tryz.underlying3 (hval 3 3 v3 rfl rfl) h3
 have bd3:=bounds_i64 wf3
 obtain⟨Uf,Na,Nb,rfl⟩:=okWide_slice Tryz.underlying22 (hval 4 22 v4 rfl rfl)
 obtain⟨fuel4,hf4⟩:=h4
 change DataW.trod enc Tryz.prog W 0 (fun _=>true) true fuel4 22 [Value.slice Uf Na Nb]=some (d4,p4)at hf4
 obtain⟨vv4,hvv4⟩: ∃vv,vv=Value.slice Uf Na Nb:=⟨_,rfl⟩
 rw [<-hvv4]at hf4 k4 hval hA0 hW'⊢
 clear hvv4
 simp only [List.cons_append,List.nil_append,Rows.uptoBulkAll]at hbk
 obtain⟨os4,sp4,cap4,rfl,hS4,hc4,hl4⟩:=LY (by omega) hf4
 clear hA0
 refine(yG W a0 a1 a2 a3 sp4 cap4 os4 hS4 hc4 hl4).mono fun e W' ⟨he,EN⟩=>?_
 subst he
 exact⟨_,rfl,_,_,_,[],_,[],hW',trodAll_mk1 (shut_bool Tryz.underlying4 _),(trodAll_cons_mk (Below.trod Tryz.laidOut (by kernel_rfl) (of_decide_eq_true (by kernel_rfl)) k0 EN lt0) (trodAll_cons_mk (Below.trod Tryz.laidOut (by kernel_rfl) (of_decide_eq_true (by kernel_rfl)) k1 EN lt1) (trodAll_cons_mk (Below.trod Tryz.laidOut (by kernel_rfl) (of_decide_eq_true (by kernel_rfl)) k2 EN lt2) (trodAll_cons_mk (Below.trod Tryz.laidOut (by kernel_rfl) (of_decide_eq_true (by kernel_rfl)) k3 EN lt3) (trodAll_cons_mk (Below.trod Tryz.laidOut (by kernel_rfl) (of_decide_eq_true (by kernel_rfl)) k4 EN lt4) trodAll_mk0))))),rfl,EN.frame _,fun h=>by cases h⟩
theorem vF(os:Os){H:Type}(enc:TypeId×Value->H): ∃places,DataW.whole enc Tryz.prog ((World.holding Tryz.prog os ⟨#[],#[],[]⟩).forCall (fun _ _=>0) ⟨#[],#[.int .i64 0, .int .i64 0, .int .i64 0, .int .i64 0, .slice none 0 0],[]⟩).memory Tryz.f3.params.toList Rows.storeRoomsSpec.vars false (#[.int .i64 0, .int .i64 0, .int .i64 0, .int .i64 0, .slice none 0 0]:Array Value).toList 8=some ([.lit (.int .i64 0), .lit (.int .i64 0), .lit (.int .i64 0), .lit (.int .i64 0), .nil],[],places):=
 ⟨[],by kernel_rfl⟩
theorem um(os:Os)(started:os.Started)(H:Type)(enc:TypeId×Value->H)(F:Stop.Interp):
   ReturnsInHanded {} Tryz.checked os 3 .any ((Rows.OpenSpec.upto Rows.storeRoomsSpec).preRow enc Tryz.prog Tryz.f3 Rows.storeRoomsUptoRow.domain false Rows.storeRoomsUptoRow.laid) (((Rows.OpenSpec.upto Rows.storeRoomsSpec).at F).post enc Tryz.prog Tryz.f3 false true false false):=by
 obtain⟨places,hx⟩:=vF os enc
 refine returnsInHanded_of_row (C:=Tryz.checked) (s:=Rows.OpenSpec.upto Rows.storeRoomsSpec) LQ started (by kernel_rfl) Tryz.func3
   (witness_row_at (enc:=enc) (C:=Tryz.checked) false (World.holding Tryz.prog os ⟨#[],#[],[]⟩) #[.int .i64 0, .int .i64 0, .int .i64 0, .int .i64 0, .slice none 0 0] rfl (by kernel_rfl) (by kernel_rfl) (by kernel_rfl)
     (OpenSpec.preRow_of_cond 8 hx (by kernel_rfl) (fun k hk=>by cases hk;kernel_rfl) (by kernel_rfl) (laidMet_of_run' 8 (by kernel_rfl) (by kernel_rfl)))) ?_
 intro W base args ds gs before hval hW _ hcond hsz hL _ _
 exact rO H enc W base args ds gs before hval hW (Gt (hcond _ rfl))
theorem storeRooms_holds:Rows.StoreRoomsUptoSaid:=
 OpenClaim.holds_of_cond 3 Tryz.f3 rfl rfl rfl rfl rfl rfl rfl ⟨rfl,rfl,rfl,rfl,rfl⟩ rfl rfl rfl rfl rfl (by kernel_rfl) Tryz.func3 (by kernel_rfl)
   (of_decide_eq_true (by kernel_rfl)) (by unfold Func.isWrapper;first| (rw [if_pos (by decide+kernel)];kernel_rfl)| (rw [if_neg (by decide+kernel)];exact⟨rfl,rfl⟩))
   (fun os started H enc _ F=>by rw [OpenClaim.pre_eq_preRow];exact um os started H enc F)
#print axioms storeRooms_holds
end Go.Proofs.YtpdakmhnnkaafaaGreat

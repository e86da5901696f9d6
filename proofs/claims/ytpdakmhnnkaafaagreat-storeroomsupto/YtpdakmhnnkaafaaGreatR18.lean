import Derived.Test.YtpdakmhnnkaafaaGreatR17
import Derived.Test.YtpdakmhnnkaafaaGreatR16
import Derived.Test.YtpdakmhnnkaafaaGreatR01
import Derived.ArgAppend
namespace Go.Proofs.YtpdakmhnnkaafaaGreat
set_option maxRecDepth 100000
set_option maxHeartbeats 40000000
set_option linter.unusedVariables false
set_option linter.unusedSimpArgs false
open Go.RowKit
open Go.Proofs.YtpdakmhnnkaafaaGreat.Ca (Ct ct0 av bV AS)
attribute [local go_sem ↓] Go.wp_at_zero Go.wp_at_succ
theorem DI{p:Int}{r:List Int}{k:Int}{l:List Int}(h:bh p r=(k,l,0))(h8:aS r):(1<=k/\k<=3)/\l.length<=246/\aS l:=by
 unfold bh at h
 split at h
 · simp at h
 split at h
 · simp at h
 split at h
 · simp at h
 split at h
 · simp at h
 rename_i hk
 split at h
 · simp at h
 rename_i hz
 split at h
 · simp at h
 split at h
 · simp at h
 obtain⟨e1,e2⟩:=Prod.mk.inj h
 obtain⟨e3,_⟩:=Prod.mk.inj e2
 have hk2:kindOk (r.getD 0 0)=true:=by simpa using hk
 refine⟨by rw [<-e1];exact(gQ _).1 hk2,by rw [<-e3,List.length_take];omega,fun x hx=>?_⟩
 rw [<-e3]at hx
 exact h8 x (List.mem_of_mem_drop (List.mem_of_mem_take hx))
structure Vw (S S':au) (D':DS) (s':aD) (vs':List (Int×List Int)) (BU:Int->Int×List Int):Prop where
 p:S'.p=S.p
 g:S'.g=S.g
 st:S'.st=S.st
 ep:S'.ep=S.ep
 D:S'.D=D'
 s:S'.s=s'
 vs:S'.vs=vs'
 kv:S'.kv=BU
 nx:(S'.nx:Int)=S'.s.ma
 N:S'.N<=S.N+2
 rm:S'.a.room=S.a.room
structure Gd (S:au) (b:Nat):Prop where
 nx:(S.nx:Int)=S.s.ma
 fit:S.s.ma+S.aB.length<=(S.D.np:Int)
 np:S.D.np<=64
 val:aJ S.s=true
 pg:S.s.pg=S.D.np
 N:S.N<=b
 rd:S.D.reads<=b
 wr:S.D.writes<=b
 sy:S.D.aA<=b
 ops:S.D.ops.length<=b
theorem Gd.bd{S:au}{b:Nat}(h:Gd S b):2<=S.s.ma/\S.s.ma<=64/\S.aB.length<=64/\0<=S.s.ge/\S.s.ge<=1099511627776:=by
 obtain⟨v1,v2,v3,v4,v5,v6,v7,v8,v9⟩:=(dg _).1 h.val
 have:=h.fit;have:=h.np
 omega
theorem Vw.same{S:au}{b:Nat}(h:Gd S b):Vw S S S.D S.s S.vs S.kv:=⟨rfl,rfl,rfl,rfl,rfl,rfl,rfl,rfl,h.nx,by omega,rfl⟩
def nG(S:au)(q:Int):Int×List Int:=if q<S.s.ma then S.kv q else S.vs.getD (q-S.s.ma).toNat (0,[])
def mr(S:au)(q:Int):Prop:=2<=q/\q<S.s.ma+S.aB.length
def ng(S:au)(q:Int):Int×List Int×Int:=bh q (S.D.aj q.toNat)
def MI(D:DS):DS:={D with reads:=D.reads+1}
def Gc(S:au)(q:Int)(S':au)(kd E:Int)(zs:List Int):Prop:=
 (ak S.D S.ep≠0/\E=ak S.D S.ep/\kd=0/\zs= []/\Vw S S' S.D S.s S.vs S.kv/\S'.a=S.a)∨
 (ak S.D S.ep=0/\ ¬mr S q/\E=41/\kd=0/\zs= []/\Vw S S' S.D S.s S.vs S.kv/\S'.a=S.a)∨
 (ak S.D S.ep=0/\mr S q/\S.a.val q≠none/\E=0/\(kd,zs)=nG S q/\Vw S S' S.D S.s S.vs S.kv/\S'.a=S.a.get q)∨
 (ak S.D S.ep=0/\mr S q/\S.a.val q=none/\q<S.s.ma/\(ng S q).2.2≠0/\E=4/\kd=0/\zs= []/\Vw S S' (MI S.D) S.s S.vs S.kv/\S'.a=S.a.get q)∨
 (ak S.D S.ep=0/\mr S q/\S.a.val q=none/\q<S.s.ma/\(ng S q).2.2=0/\E=0/\kd=(ng S q).1/\zs=(ng S q).2.1/\Vw S S' (MI S.D) S.s S.vs (fun k=>if k=q then(kd,zs)else S.kv k)/\ ∃c:Ct,S'.a=(S.a.get q).put q c)
def cH(w:World)(base:Nat)(S S':au)(w':World):Prop:=SK w' base S'/\Below base w w'/\Fr S.fp w w'/\Gr w S.fp S'.fp
theorem cH.same{w w':World}{base:Nat}{S:au}(h:SK w base S)(hb:Below w.heap.size w w'):cH w base S S w':=⟨h.below hb,hb.mono h.base,Fr.ba hb,Gr.refl _ _⟩
theorem MJ{w:World}{S:au}{FC:List Nat}(hG:Gr w S.FC FC):Gr w S.fp (au.fp {S with FC:=FC}):=by
 intro k q
 rcases(au.mem _ k).1 q with e| e| e| e| e| e
 · exact Or.inl ((au.mem S k).2 (Or.inl e))
 · exact Or.inl ((au.mem S k).2 (Or.inr (Or.inl e)))
 · exact Or.inl ((au.mem S k).2 (Or.inr (Or.inr (Or.inl e))))
 · rcases hG k e with z| z
   · exact Or.inl ((au.mem S k).2 (Or.inr (Or.inr (Or.inr (Or.inl z)))))
   · exact Or.inr z
 · exact Or.inl ((au.mem S k).2 (Or.inr (Or.inr (Or.inr (Or.inr (Or.inl e))))))
 · exact Or.inl ((au.mem S k).2 (Or.inr (Or.inr (Or.inr (Or.inr (Or.inr e))))))
theorem Fr.fc{w w':World}{S:au}(hF:Fr S.FC w w'):Fr S.fp w w':=⟨hF.os,hF.tape,hF.output,hF.size,fun k hk hn=>hF.block k hk (fun z=>hn ((au.mem S k).2 (by simp [z])))⟩
theorem xq{l:List (Int×Ct)}{k:Int}{c:Ct}(h:Ca.dr l k=some c):(k,c)∈l:=by
 unfold Ca.dr at h
 cases q:l.find? fun x=>decide (x.1=k)with
 | none=>rw [q]at h;cases h
 | some x=>
   rw [q]at h
   have h1:=List.mem_of_find?_eq_some q
   have h2:x.1=k:=by simpa using List.find?_some q
   have h3:x.2=c:=by simpa using h
   rw [<-h2,<-h3];exact h1
theorem SK.hit{w:World}{base:Nat}{S:au}(h:SK w base S){q:Int}{c:Ct}(hq:mr S q)(hv:S.a.val q=some c):jQ w base S.lb c (nG S q):=by
 unfold nG
 by_cases k:q<S.s.ma
 · rw [if_pos k]
   unfold Ca.AS.val at hv
   rw [h.hd,qL _ _ _ (Or.inl k)]at hv
   obtain⟨v,c1,c2,c3,c4⟩:=h.ck _ (xq (show Ca.dr S.a.clean q=some c by simpa using hv))
   rw [show S.kv q=v from c4];exact c1
 · rw [if_neg k]
   obtain⟨j,hj⟩: ∃j:Nat,q=S.s.ma+(j:Int):=⟨(q-S.s.ma).toNat,by omega⟩
   have hj2:j<S.aB.length:=by have:=hq.2;omega
   have e:=h.uY j hj2
   rw [<-hj,hv]at e
   rw [hj,show(S.s.ma+(j:Int)-S.s.ma).toNat=j by omega,Option.some.inj e]
   exact h.cv j hj2
theorem BV(a:AS Int Ct)(k:Int):(a.get k).room=a.room:=by
 unfold Ca.AS.get
 split
 · rfl
 · split<;>rfl
theorem Qu(a:AS Int Ct)(k:Int)(c:Ct):(a.put k c).room=a.room:=by
 unfold Ca.AS.put
 split<;>rfl
theorem Le(w:World)(base:Nat)(S:au)(b:Nat)(h:SK w base S)(G:Gd S b)(hb:b<=1000000000000)(q:Int):
   Calls Tryz.prog 15 #[.pointer (some ⟨S.st,0,none⟩), .int .i64 q] w fun e w'=> ∃S' kd u E zs,e= .returned (.tuple #[.int .i64 kd,u, .int .i64 E])/\Own w' w.heap.size u zs/\zs.length<=246/\(∀k,u.ownBlock=some k->k∉S'.fp)/\Gc S q S' kd E zs/\cH w base S S' w':=by
 obtain⟨g1,g2,g3,g4,g5⟩:=G.bd
 have hN:=G.N
 have hR:=G.rd
 have cX:=h.base
 by_cases hlv:ak S.D S.ep=0
 · by_cases hq:mr S q
   · cases hv:S.a.val q with
     | some c=>
       have hc:=h.hit hq hv
       refine(xe w base S h hlv (by omega) ⟨g1,by omega⟩ (by omega) q hq c hv (nG S q).1 (nG S q).2 hc).mono fun e w' ⟨FC,u,he,hO,hX,hK,hF,hG⟩=>⟨{S with FC:=FC,N:=S.N+1,a:=S.a.get q},(nG S q).1,u,0,(nG S q).2,he,hO,hc.le,hX,Or.inr (Or.inr (Or.inl ⟨hlv,hq,(by rw [hv];exact fun z=>(by cases z)),rfl,rfl,⟨rfl,rfl,rfl,rfl,rfl,rfl,rfl,rfl,G.nx,(by show S.N+1<=S.N+2;omega),BV _ _⟩,rfl⟩)),hK,?_,Fr.fc hF,MJ hG⟩
       exact hF.below (fun k hk=>(h.dG (by simp [hk])).1) cX
     | none=>
       have Tm:q<S.s.ma:=by
         by_cases k:q<S.s.ma
         · exact k
         · have e:=h.uY (q-S.s.ma).toNat (by have:=hq.2;omega)
           rw [show S.s.ma+((q-S.s.ma).toNat:Int)=q by omega,hv]at e
           cases e
       have hf:=G.fit
       have hm:S.s.ma=(S.s.ma.toNat:Int):=by omega
       obtain⟨qn,rfl⟩: ∃k:Nat,q=k:=⟨q.toNat,by have:=hq.1;omega⟩
       have q1:=hq.1
       by_cases hu:(ng S (qn:Int)).2.2=0
       · have e0:bh (qn:Int) (S.D.aj qn)=((ng S (qn:Int)).1,(ng S (qn:Int)).2.1,0):=by
           rw [<-hu];show _=(bh (qn:Int) (S.D.aj (qn:Int).toNat));rw [Int.toNat_natCast]
         obtain⟨u1,u2,u3⟩:=DI e0 (js h.da.ok qn (by omega)).2
         refine(Dx w base S h hlv (by omega) S.s.ma.toNat hm (by have:=G.nx;omega) ⟨by omega,by omega⟩ (by omega) qn ⟨by omega,by omega,by omega⟩ hv (by omega) _ _ e0 u1 u2 u3).mono fun e w' ⟨S',u,he,hO,hX,⟨hK,hS,k1,k2,k3,k4,c,k5⟩,hB,hF,hG⟩=>⟨S',_,u,0,_,he,hO,u2,hX,Or.inr (Or.inr (Or.inr (Or.inr ⟨hlv,hq,hv,Tm,hu,rfl,rfl,rfl,⟨hS.p,hS.g,hS.st,hS.ep,hS.D,hS.s,k2,k4,by rw [hS.nx,hS.s];exact G.nx,by omega,by rw [k5,Qu,BV]⟩,c,k5⟩))),hK,hB,hF,hG⟩
       · have hu2:(bh (qn:Int) (S.D.aj qn)).2.2≠0:=by
           have e1:ng S (qn:Int)=bh (qn:Int) (S.D.aj qn):=by show bh (qn:Int) (S.D.aj (qn:Int).toNat)=_;rw [Int.toNat_natCast]
           rwa [e1]at hu
         refine(FZ w base S h hlv (by omega) S.s.ma.toNat hm (by have:=G.nx;omega) ⟨by omega,by omega⟩ (by omega) qn ⟨by omega,by omega,by omega⟩ hv (by omega) hu2).mono fun e w' ⟨FC,he,hK,hB,hF,hG⟩=>⟨{S with FC:=FC,D:={S.D with reads:=S.D.reads+1},N:=S.N+1,a:=S.a.get (qn:Int),nx:=S.s.ma.toNat},0,_,4,[],he,Own.nil _ _,by simp,fun k e=>by simp [Value.ownBlock]at e,Or.inr (Or.inr (Or.inr (Or.inl ⟨hlv,hq,hv,Tm,hu,rfl,rfl,rfl,⟨rfl,rfl,rfl,rfl,rfl,rfl,rfl,rfl,hm.symm,(by show S.N+1<=S.N+2;omega),BV _ _⟩,rfl⟩))),hK,hB,hF,MJ hG⟩
   · exact(IZ w base S h hlv (by omega) ⟨by omega,by omega⟩ q hq).mono fun e w' ⟨he,hB⟩=>⟨S,0,_,41,[],he,Own.nil _ _,by simp,fun k e=>by simp [Value.ownBlock]at e,Or.inr (Or.inl ⟨hlv,hq,rfl,rfl,rfl,Vw.same G,rfl⟩),cH.same h hB⟩
 · exact(FW w base S h _ rfl hlv q).mono fun e w' ⟨he,hB⟩=>⟨S,0,_,_,[],he,Own.nil _ _,by simp,fun k e=>by simp [Value.ownBlock]at e,Or.inl ⟨hlv,rfl,rfl,rfl,Vw.same G,rfl⟩,cH.same h hB⟩
def nH(S:au)(kd:Int)(zs:List Int)(S':au)(q E:Int):Prop:=
 (ak S.D S.ep≠0/\E=ak S.D S.ep/\q=0/\Vw S S' S.D S.s S.vs S.kv/\S'.a=S.a)∨
 (ak S.D S.ep=0/\((kd<1\/3<kd)\/246<zs.length\/S.s.ma+S.aB.length=(S.D.np:Int))/\E=(if kd<1\/3<kd then 50 else if 246<zs.length then 51 else 5)/\q=0/\Vw S S' S.D S.s S.vs S.kv/\S'.a=S.a)∨
 (ak S.D S.ep=0/\(1<=kd/\kd<=3)/\zs.length<=246/\S.s.ma+S.aB.length≠(S.D.np:Int)/\E=0/\q=S.s.ma+S.aB.length/\Vw S S' S.D S.s (S.vs++ [(kd,zs)]) S.kv/\ ∃c:Ct,S'.a={S.a with held:=S.a.held++ [(S.s.ma+S.aB.length,c)]})
theorem oP(w:World)(base:Nat)(S:au)(b:Nat)(h:SK w base S)(G:Gd S b)(hb:b<=1000000000000)(kd:Int)(zs:List Int)(h8:aS zs)(hz:zs.length<=1000)(sp:Option Addr)(cap:Nat)(hS:Src w sp cap zs)(hn:sp=none->cap=0):
   Calls Tryz.prog 14 #[.pointer (some ⟨S.st,0,none⟩), .int .i64 kd, .slice sp zs.length cap] w fun e w'=> ∃S' q E,e= .returned (.tuple #[.int .i64 q, .int .i64 E])/\nH S kd zs S' q E/\cH w base S S' w':=by
 obtain⟨g1,g2,g3,g4,g5⟩:=G.bd
 have hN:=G.N
 by_cases hlv:ak S.D S.ep=0
 · by_cases hc:(kd<1\/3<kd)\/246<zs.length\/S.s.ma+S.aB.length=(S.D.np:Int)
   · exact(FX w base S h hlv (by omega) ⟨by omega,by omega⟩ kd zs.length (by omega) sp cap _ rfl hc).mono fun e w' ⟨he,hB⟩=>⟨S,_,_,he,Or.inr (Or.inl ⟨hlv,hc,rfl,rfl,Vw.same G,rfl⟩),cH.same h hB⟩
   · have k1:1<=kd/\kd<=3:=by omega
     have k2:zs.length<=246:=by omega
     have k3:S.s.ma+S.aB.length≠(S.D.np:Int):=fun e=>hc (Or.inr (Or.inr e))
     exact(xc w base S h hlv (by omega) ⟨by omega,by omega⟩ (by omega) k3 kd k1 zs h8 k2 sp cap hS hn).mono fun e w' ⟨FC,lb,a,sv,c,he,ha,hK,hF,hG⟩=>⟨{S with FC:=FC,lb:=lb,N:=S.N+1,a:=a,sv:=sv,aB:=S.aB++ [c],vs:=S.vs++ [(kd,zs)]},_,0,he,Or.inr (Or.inr ⟨hlv,k1,k2,k3,rfl,rfl,⟨rfl,rfl,rfl,rfl,rfl,rfl,rfl,rfl,G.nx,(by show S.N+1<=S.N+2;omega),by show a.room=_;rw [ha]⟩,c,ha⟩),hK,hF.below (fun k hk=>(h.cF hk).1) h.base,hF,hG⟩
 · exact(DD w base S h _ rfl hlv kd sp zs.length cap).mono fun e w' ⟨he,hB⟩=>⟨S,0,_,he,Or.inl ⟨hlv,rfl,rfl,Vw.same G,rfl⟩,cH.same h hB⟩
def yx(S:au)(x:Int)(S':au)(E:Int):Prop:=
 (ak S.D S.ep≠0/\E=ak S.D S.ep/\Vw S S' S.D S.s S.vs S.kv/\S'.a=S.a)∨
 (ak S.D S.ep=0/\(x<S.s.ma\/S.s.ma+S.aB.length<x)/\E=1/\Vw S S' S.D S.s S.vs S.kv/\S'.a=S.a)∨
 (ak S.D S.ep=0/\(S.s.ma<=x/\x<=S.s.ma+S.aB.length)/\E=0/\Vw S S' S.D S.s (S.vs.take (x-S.s.ma).toNat) S.kv/\S'.a=S.a.release (x-S.s.ma).toNat)
theorem Ge(w:World)(base:Nat)(S:au)(b:Nat)(h:SK w base S)(G:Gd S b)(hb:b<=1000000000000)(x:Int):
   Calls Tryz.prog 49 #[.pointer (some ⟨S.st,0,none⟩), .int .i64 x] w fun e w'=> ∃S' E,e= .returned (.int .i64 E)/\yx S x S' E/\cH w base S S' w':=by
 obtain⟨g1,g2,g3,g4,g5⟩:=G.bd
 have hN:=G.N
 by_cases hlv:ak S.D S.ep=0
 · by_cases hc:x<S.s.ma\/S.s.ma+S.aB.length<x
   · exact(DG w base S h hlv (by omega) ⟨by omega,by omega⟩ x hc).mono fun e w' ⟨he,hB⟩=>⟨S,_,he,Or.inr (Or.inl ⟨hlv,hc,rfl,Vw.same G,rfl⟩),cH.same h hB⟩
   · refine(DF w base S h hlv (by omega) ⟨by omega,by omega⟩ (by omega) (x-S.s.ma).toNat (by omega) x (by omega)).mono fun e w' ⟨F2,v',he,hK,hF,hG⟩=>⟨{S with FC:=F2,N:=S.N+1,a:=S.a.release (x-S.s.ma).toNat,sv:=v',aB:=S.aB.take (x-S.s.ma).toNat,vs:=S.vs.take (x-S.s.ma).toNat},0,he,Or.inr (Or.inr ⟨hlv,⟨by omega,by omega⟩,rfl,⟨rfl,rfl,rfl,rfl,rfl,rfl,rfl,rfl,G.nx,(by show S.N+1<=S.N+2;omega),rfl⟩,rfl⟩),hK,hF.below (fun k hk=>(h.cF hk).1) h.base,hF,hG⟩
 · exact(BS w base S h _ rfl hlv x).mono fun e w' ⟨he,hB⟩=>⟨S,_,he,Or.inl ⟨hlv,rfl,Vw.same G,rfl⟩,cH.same h hB⟩
def fu(S:au)(hd:Int):aD:=⟨S.s.wd,S.s.ge+1,S.s.ma+S.vs.length,hd,S.s.pg⟩
def gO(S:au)(hd:Int):DS×Int:=
 if ak (bW S.D S.s.ma.toNat S.vs) S.ep=0 then aX (bW S.D S.s.ma.toNat S.vs) [.sync, .lay (fu S hd) 0 0, .sync]else(bW S.D S.s.ma.toNat (S.vs.take S.D.armed.toNat),2)
theorem xu{S:au}{m:Nat}{hd c:Int}{D':DS}{s':aD}(h:xj S m hd c D' s')(hm:S.s.ma=m)(hok:cC S.D):D'=(gO S hd).1/\c=(gO S hd).2/\s'=if c=0 then fu S hd else S.s:=by
 have VN:S.s.ma.toNat=m:=by omega
 have hn:(⟨S.s.wd,S.s.ge+1,((m+S.vs.length:Nat):Int),hd,S.s.pg⟩:aD)=fu S hd:=by unfold fu;rw [hm];push_cast;rfl
 have ha0:=hok.armed.1
 unfold gO
 rw [VN]
 rcases h with⟨i,hi,h1,h2,h3,h4,h5⟩| ⟨h1,h2,h3,h4⟩
 · have Ev:(S.vs.take i).length=i:=by rw [List.length_take];omega
   have UM:S.D.armed=(i:Int)+1:=by
     by_cases z:S.D.armed=0
     · have:=(yw (S.vs.take i) S.D m z).1;omega
     · by_cases y:S.D.armed<=(S.vs.take i).length
       · have:=oO (S.vs.take i) S.D m (by omega) y
         have:=gP h2
         simp_all
       · have:=(ve (S.vs.take i) S.D m (by omega)).1
         rw [Ev]at this;omega
   have RO: ¬ak (bW S.D m S.vs) S.ep=0:=fun z=>by
     have e1:=oO S.vs S.D m (by omega) (by omega)
     have e2:=gP z
     simp_all
   rw [if_neg RO,UM,show((i:Int)+1).toNat=i+1 by omega]
   exact⟨h4,h3,by rw [h3,if_neg (by decide)];exact h5⟩
 · rw [if_pos h1,<-hn]
   exact⟨h3,h2,h4⟩
def qd(S:au)(hd:Int)(S':au)(E:Int):Prop:=
 (ak S.D S.ep≠0/\E=ak S.D S.ep/\Vw S S' S.D S.s S.vs S.kv/\S'.a=S.a)∨
 (ak S.D S.ep=0/\(hd≠0/\ ¬mr S hd)/\E=41/\Vw S S' S.D S.s S.vs S.kv/\S'.a=S.a)∨
 (ak S.D S.ep=0/\(hd=0\/mr S hd)/\S.s.ge=1099511627776/\E=5/\Vw S S' S.D S.s S.vs S.kv/\S'.a=S.a)∨
 (ak S.D S.ep=0/\(hd=0\/mr S hd)/\S.s.ge≠1099511627776/\E=(gO S hd).2/\E≠0/\Vw S S' (gO S hd).1 S.s S.vs S.kv/\S'.a=S.a)∨
 (ak S.D S.ep=0/\(hd=0\/mr S hd)/\S.s.ge≠1099511627776/\E=(gO S hd).2/\E=0/\Vw S S' (gO S hd).1 (fu S hd) [] (fun k=>if S.s.ma<=k/\k<S.s.ma+S.vs.length then S.vs.getD (k-S.s.ma).toNat (0,[])else S.kv k)/\S'.a=S.a.settle)
theorem Jb(w:World)(base:Nat)(S:au)(b:Nat)(h:SK w base S)(G:Gd S b)(hb:b<=1000000000)(hd:Int):
   Calls Tryz.prog 50 #[.pointer (some ⟨S.st,0,none⟩), .int .i64 hd] w fun e w'=> ∃S' E,e= .returned (.int .i64 E)/\qd S hd S' E/\cH w base S S' w':=by
 obtain⟨g1,g2,g3,g4,g5⟩:=G.bd
 have hN:=G.N
 have cX:=h.base
 have hok:=h.da.ok
 have gH:=h.cl
 have hfit:=G.fit
 have gI:=G.np
 by_cases hlv:ak S.D S.ep=0
 · by_cases hh:hd=0\/mr S hd
   · by_cases hge:S.s.ge=1099511627776
     · rcases hh with rfl| hh
       · exact(uJ w base S h hlv hge).mono fun e w' ⟨he,hB⟩=>⟨S,5,he,Or.inr (Or.inr (Or.inl ⟨hlv,Or.inl rfl,hge,rfl,Vw.same G,rfl⟩)),cH.same h hB⟩
       · by_cases h0:hd=0
         · subst h0
           exact(uJ w base S h hlv hge).mono fun e w' ⟨he,hB⟩=>⟨S,5,he,Or.inr (Or.inr (Or.inl ⟨hlv,Or.inl rfl,hge,rfl,Vw.same G,rfl⟩)),cH.same h hB⟩
         · exact(BQ w base S h hlv hge (by omega) ⟨by omega,by omega⟩ hd h0 hh).mono fun e w' ⟨he,hB⟩=>⟨S,5,he,Or.inr (Or.inr (Or.inl ⟨hlv,Or.inr hh,hge,rfl,Vw.same G,rfl⟩)),cH.same h hB⟩
     · obtain⟨m,hm⟩: ∃m:Nat,S.s.ma=m:=⟨S.s.ma.toNat,by omega⟩
       have eY:S.nx=m:=by have:=G.nx;omega
       have hval:aJ ⟨S.s.wd,S.s.ge+1,(m+S.vs.length:Nat),hd,S.s.pg⟩=true:=by
         obtain⟨v1,v2,v3,v4,v5,v6,v7,v8,v9⟩:=(dg _).1 G.val
         have:=G.pg
         rw [dg]
         refine⟨v1,v2,by show 0<=S.s.ge+1;omega,by show S.s.ge+1<=_;omega,v5,v6,by push_cast;omega,by show((m+S.vs.length:Nat):Int)<=S.s.pg;push_cast;omega,?_⟩
         rcases hh with q| q
         · exact Or.inl q
         · obtain⟨q1,q2⟩:=q
           exact Or.inr ⟨q1,by show hd<((m+S.vs.length:Nat):Int);push_cast;omega⟩
       have hh2:hd=0\/(2<=hd/\hd<(m+S.vs.length:Nat)):=hh.imp id fun⟨q1,q2⟩=>⟨q1,by push_cast;omega⟩
       obtain⟨a1,a2,a3,a4,a5⟩:=mq S.vs S.D m
       have r1:=G.rd
       have r2:=G.wr
       have r3:=G.sy
       have r4:=G.ops
       have Tn:=fun(w1:World) (hb:Below w.heap.size w w1)=>BH w1 base S (h.below hb) hlv (by omega) m hm eY (by omega) (by omega) hd hh2 ⟨by omega,by omega⟩ hval (fun hl=>⟨gP hl,by rw [a5];omega,by rw [a4];omega,by rw [a3];omega⟩) (by omega) (by omega)
       by_cases hE:(gO S hd).2=0
       · have PB2: ∀w1,Below w.heap.size w w1->Calls Tryz.prog 77 #[.pointer (some ⟨S.st,0,none⟩), .int .i64 hd] w1 fun e w'=>e= .returned (.int .i64 0)/\w'.heap[S.st]? =some (.cells (kY S.g S.pc S.sv).toArray 96 (0,0))/\Ca.CA w' base S.FC S.pc S.N S.a/\(∃w1 F',Below w.heap.size w w1/\DA w' base F' S.p (gO S hd).1/\FK w' S.g S.p (fu S hd) (fu S hd).ma S.ep/\Fr (S.g::S.F) w1 w'/\Gr w1 S.F F'):=fun w1 hb=>by
           refine(Tn w1 hb).mono fun e w' ⟨c,D',s',F',he,hP,hD,hf,hF,hG⟩=>?_
           obtain⟨e1,e2,e3⟩:=xu hP hm hok
           have hc:c=0:=e2.trans hE
           rw [if_pos hc]at e3
           have h1:=h.below hb
           obtain⟨o1,o2,o3,o4⟩:=h1.off hF
           refine⟨by rw [he,hc],o1.trans h1.sk,?_,w1,F',hb,e1▸hD,e3▸hf,hF,hG⟩
           obtain⟨mm,n,s,L,e,c,r⟩:=h1.ca
           exact⟨mm,n,s,L,e,c.of_heap fun k hk=>o4 k (by rw [e];exact hk),r⟩
         have hs2:(fu S hd).ma=(m+S.vs.length:Nat):=by show S.s.ma+S.vs.length=_;rw [hm];push_cast;rfl
         have END: ∀e w',(∃w3,e=Ending.returned (.int .i64 0)/\(∃w1 F',Below w.heap.size w w1/\DA w3 base F' S.p (gO S hd).1/\FK w3 S.g S.p (fu S hd) (fu S hd).ma S.ep/\Fr (S.g::S.F) w1 w3/\Gr w1 S.F F')/\Ca.Nx base S.FC S.pc S.N (w3.setCell ⟨S.st,3,none⟩ (.slice none 0 0)) S.a.settle w')-> ∃S' E,e= .returned (.int .i64 E)/\qd S hd S' E/\cH w base S S' w':=fun e w' ⟨w3,he,⟨w1,F',hb,hD,hf,hF,hG⟩,hX⟩=>by
           obtain⟨F2,hK,hZ⟩:=(h.below hb).NY m hm (by omega) hs2 (by omega) hD hf hF hG hX
           refine⟨{S with F:=F',FC:=F2,D:=(gO S hd).1,s:=fu S hd,nx:=m+S.vs.length,N:=S.N+1,a:=S.a.settle,sv:= .slice none 0 0,aB:= [],vs:= [],kv:=fun k=>if(m:Int)<=k/\k<(m+S.vs.length:Nat)then S.vs.getD (k-m).toNat (0,[])else S.kv k},0,he,Or.inr (Or.inr (Or.inr (Or.inr ⟨hlv,hh,hge,hE.symm,rfl,⟨rfl,rfl,rfl,rfl,rfl,rfl,rfl,?_,hs2.symm,by show S.N+1<=S.N+2;omega,rfl⟩,rfl⟩))),hK,(hb.mono cX).trans hZ.1,(Fr.ba (F:=S.fp) hb).trans hZ.2.1 (Gr.refl _ _),fun k q=>(hZ.2.2 k q).imp id (fun z=>Nat.le_trans hb.size z)⟩
           rw [hm];push_cast;rfl
         rcases hh2 with rfl| q
         · exact(IJ w base S h hlv hge (by omega) _ PB2).mono fun e w' z=>END e w' z
         · exact(FU w base S h hlv hge (by omega) ⟨by omega,by omega⟩ hd (by omega) ⟨q.1,by rw [hm,gH];have:=q.2;push_cast at this;exact this⟩ (by omega) _ PB2).mono fun e w' z=>END e w' z
       · have PB2: ∀w1,Below w.heap.size w w1->Calls Tryz.prog 77 #[.pointer (some ⟨S.st,0,none⟩), .int .i64 hd] w1 fun e w'=> ∃c,c≠0/\e= .returned (.int .i64 c)/\ ∃S' E,(.returned (.int .i64 c):Ending)= .returned (.int .i64 E)/\qd S hd S' E/\cH w base S S' w':=fun w1 hb=>by
           refine(Tn w1 hb).mono fun e w' ⟨c,D',s',F',he,hP,hD,hf,hF,hG⟩=>?_
           obtain⟨e1,e2,e3⟩:=xu hP hm hok
           have hc:c≠0:=fun z=>hE (e2.symm.trans z)
           rw [if_neg hc]at e3
           subst e3
           have hK:=(h.below hb).BK hD m hm hf hF hG
           have f1:Fr S.fp w1 w':=hF.xl fun k hk=>(au.mem S k).2 (by rcases List.mem_cons.1 hk with z| z<;>simp [z])
           refine⟨c,hc,he,{S with F:=F',D:=D',nx:=m},c,rfl,Or.inr (Or.inr (Or.inr (Or.inl ⟨hlv,hh,hge,e2,hc,⟨rfl,rfl,rfl,rfl,e1,rfl,rfl,rfl,hm.symm,by show S.N<=S.N+2;omega,rfl⟩,rfl⟩))),hK,(hb.mono cX).trans (hF.below (fun k hk=>((h.below hb).dG (by rcases List.mem_cons.1 hk with z| z<;>simp [z])).1) (h.below hb).base),(Fr.ba (F:=S.fp) hb).trans f1 (Gr.refl _ _),?_⟩
           intro k q
           rcases(au.mem _ k).1 q with e| e| e| e| e| e
           · exact Or.inl ((au.mem S k).2 (Or.inl e))
           · exact Or.inl ((au.mem S k).2 (Or.inr (Or.inl e)))
           · exact(hG k e).imp (fun z=>(au.mem S k).2 (Or.inr (Or.inr (Or.inl z)))) (fun z=>Nat.le_trans hb.size z)
           · exact Or.inl ((au.mem S k).2 (Or.inr (Or.inr (Or.inr (Or.inl e)))))
           · exact Or.inl ((au.mem S k).2 (Or.inr (Or.inr (Or.inr (Or.inr (Or.inl e))))))
           · exact Or.inl ((au.mem S k).2 (Or.inr (Or.inr (Or.inr (Or.inr (Or.inr e))))))
         rcases hh2 with rfl| q
         · exact FR w base S h hlv hge _ PB2
         · exact Dy w base S h hlv hge (by omega) ⟨by omega,by omega⟩ hd (by omega) ⟨q.1,by rw [hm,gH];have:=q.2;push_cast at this;exact this⟩ (fun e w'=> ∃S' E,e= .returned (.int .i64 E)/\qd S hd S' E/\cH w base S S' w') PB2
   · exact(DC w base S h hlv (by omega) ⟨by omega,by omega⟩ hd (fun z=>hh (Or.inl z)) (fun z=>hh (Or.inr z))).mono fun e w' ⟨he,hB⟩=>⟨S,41,he,Or.inr (Or.inl ⟨hlv,⟨fun z=>hh (Or.inl z),fun z=>hh (Or.inr z)⟩,rfl,Vw.same G,rfl⟩),cH.same h hB⟩
 · exact(Dz w base S h _ rfl hlv hd).mono fun e w' ⟨he,hB⟩=>⟨S,_,he,Or.inl ⟨hlv,rfl,Vw.same G,rfl⟩,cH.same h hB⟩
end Go.Proofs.YtpdakmhnnkaafaaGreat
namespace Go.Proofs.YtpdakmhnnkaafaaGreat.Bo
set_option maxRecDepth 100000
set_option maxHeartbeats 40000000
set_option linter.unusedVariables false
set_option linter.unusedSimpArgs false
open Go.RowKit
attribute [local go_sem ↓] Go.wp_at_zero Go.wp_at_succ
theorem yy{w:World}{base g n cap:Nat}{m:Int}{cur:Array Value}(hh:w.heap[g]? =some (.cells cur 5 (0,0)))(hg:base<=g)(hn:n<=cap)(hm:cap<=maxLen)(hs:cur.size=cap)(hc: ∀j,j<n->cur[j]? =some (.int .u8 m)):
   Own w base (.slice (some ⟨g,0,none⟩) n cap) (List.replicate n m):=by
 refine⟨by rw [aI,List.length_replicate,Nat.mul_one],Or.inr ⟨g,cap,cur,by rw [List.length_replicate],hg,hh,by rw [List.length_replicate];exact hn,hm,by omega,?_⟩⟩
 apply List.ext_getElem?
 intro j
 rw [List.length_replicate,Nat.mul_one,List.getElem?_take]
 by_cases hj:j<n
 · rw [if_pos hj,fx .u8 _ j (by rw [List.length_replicate];exact hj),List.getD_eq_getElem?_getD,List.getElem?_replicate,if_pos hj]
   have:=hc j hj
   simpa using this
 · rw [if_neg hj,List.getElem?_eq_none (by rw [aI,List.length_replicate];omega)]
theorem tZ{w:World}{base n:Nat}{v:Value}{m:Int}(h:Own w base v (List.replicate n m)):(v= .slice none 0 0/\n=0)\/ ∃g cap cur,v= .slice (some ⟨g,0,none⟩) n cap/\base<=g/\w.heap[g]? =some (.cells cur 5 (0,0))/\n<=cap/\cap<=maxLen/\cur.size=cap/\ ∀j,j<n->cur[j]? =some (.int .u8 m):=by
 obtain⟨h1,⟨rfl,hn⟩| ⟨g,cap,cur,rfl,hg,hh,hc,hm,hs,ht⟩⟩:=h
 · rw [List.length_replicate]at hn;exact Or.inl ⟨rfl,hn⟩
 · rw [List.length_replicate]at hc ht
   refine Or.inr ⟨g,cap,cur,by rw [List.length_replicate],hg,hh,hc,hm,by omega,fun j hj=>?_⟩
   have hg2:=fx .u8 (List.replicate n m) j (by rw [List.length_replicate];exact hj)
   rw [<-ht,List.getElem?_take,if_pos (by omega),List.getD_eq_getElem?_getD,List.getElem?_replicate,if_pos hj]at hg2
   simpa using hg2
theorem zE(g:Nat)(m:Int): ∀(c o:Nat) (w:World) (cur:Array Value),w.heap[g]? =some (.cells cur 5 (0,0))-> ∃cur',(w.setCells g o (ints .u8 (List.replicate c m))).heap[g]? =some (.cells cur' 5 (0,0))/\cur'.size=cur.size/\(∀j,j<cur.size->cur'[j]? =if o<=j/\j<o+c then some (.int .u8 m)else cur[j]?)/\fF g w (w.setCells g o (ints .u8 (List.replicate c m)))
 | 0,o,w,cur,h=>⟨cur,h,rfl,fun j hj=>by rw [if_neg (by omega)],fF.refl g w⟩
 | c+1,o,w,cur,h=>by
   have e:ints .u8 (List.replicate (c+1) m)= .int .u8 m::ints .u8 (List.replicate c m):=by rw [List.replicate_succ];rfl
   rw [e]
   have h1:(w.setCell ⟨g,o,none⟩ (.int .u8 m)).heap[g]? =some (.cells (cur.setIfInBounds o (.int .u8 m)) 5 (0,0)):=by
     rw [heap_setCell_same _ _ _ _ _ _ h]
   obtain⟨cur',a1,a2,a3,a4⟩:=zE g m c (o+1) _ _ h1
   refine⟨cur',a1,by rw [a2];simp,fun j hj=>?_,⟨a4.os,a4.tape,a4.output,by have:=a4.size;rw [World.size_setCell]at this;exact this,fun k h1 h2=>?_⟩⟩
   · rw [a3 j (by simpa using hj)]
     by_cases q1:o+1<=j/\j<o+1+c
     · rw [if_pos q1,if_pos (by omega)]
     · rw [if_neg q1,Array.getElem?_setIfInBounds]
       by_cases q2:o=j
       · rw [if_pos q2,if_pos (by omega),if_pos (by omega)]
       · rw [if_neg q2,if_neg (by omega)]
   · show((w.setCell ⟨g,o,none⟩ (.int .u8 m)).setCells g (o+1) _).heap[k]? =_
     rw [a4.block k (by rw [World.size_setCell];exact h1) h2,heap_setCell_other w ⟨g,o,none⟩ k _ h2]
theorem lg{w:World}{ops:Array Oper}{rest:List Oper}{o:Oper}{a:Act}{Q:Exit->Act->World->Prop}(hgd:o.guard=none)(s x:Operand)
   (ho:o.op= .call {callee:= .builtin .append,args:= #[s,x],argTypes:= #[31,31]})
   (base:Nat) (v:Value) (n c:Nat) (m:Int) (hs:a.eval s=v) (hown:Own w base v (List.replicate n m)) (hc0:0<c) (hx:a.eval x= .slice (some ⟨w.heap.size,0,none⟩) c c)
   (hlen:n+c<=1000000000000) (hbase:base<=w.heap.size) (t:TypeId) (fr:Nat×Nat)
   (h: ∀v' w',Own w' base v' (List.replicate (n+c) m)->Below base w w'->(∀k,k<w.heap.size->v.ownBlock≠some k->w'.heap[k]? =w.heap[k]?)->(v'.ownBlock=v.ownBlock\/ ∃k,v'.ownBlock=some k/\w.heap.size<=k)→
     (∀b u k,Own w b u (List.replicate k m)->Own w' b u (List.replicate k m))->wpList Tryz.prog ops Q rest (a.put o.dst v') w'):
   wpList Tryz.prog ops Q (o::rest) a (w.alloc (.cells (ints .u8 (List.replicate c m)).toArray t fr)):=by
 obtain⟨i5,hi5,hz5,hs5,hy5⟩:=Tryz.info5
 have bA:Below w.heap.size w (w.alloc (.cells (ints .u8 (List.replicate c m)).toArray t fr)):=(Below.refl _ _).alloc (Nat.le_refl _) _
 have lc:(ints .u8 (List.replicate c m)).length=c:=by rw [aI,List.length_replicate]
 have ln:(ints .u8 (List.replicate n m)).length=n:=by rw [aI,List.length_replicate]
 have hN: ∀j u,(ints .u8 (List.replicate c m))[j]? =some u->(w.alloc (.cells (ints .u8 (List.replicate c m)).toArray t fr)).cell? ((⟨w.heap.size,0,none⟩:Addr).add j)=some u:=fun j u hu=>by
   rw [Addr.add_mid,Nat.zero_add,cell_of_row _ _ _ _ _ _ (aF w _)]
   simpa using hu
 have fin: ∀v' w',w'.ownsRow (w.alloc (.cells (ints .u8 (List.replicate c m)).toArray t fr)).heap.size 5 1 v' (n+c) (ints .u8 (List.replicate n m)++ints .u8 (List.replicate c m))->(w.alloc (.cells (ints .u8 (List.replicate c m)).toArray t fr)).grownBy w' none->wpList Tryz.prog ops Q rest (a.put o.dst v') w':=by
   intro v' w' q1 q2
   have bB:Below w.heap.size w w':=bA.trans (dx q2 (fun k hk=>by cases hk) (by simp))
   have q3:Own w' (w.alloc (.cells (ints .u8 (List.replicate c m)).toArray t fr)).heap.size v' (List.replicate n m++List.replicate c m):=Own.rY (by rw [List.length_replicate,List.length_replicate];exact q1)
   rw [List.replicate_append_replicate]at q3
   have hsz:w.heap.size<=(w.alloc (.cells (ints .u8 (List.replicate c m)).toArray t fr)).heap.size:=by simp
   refine h v' w' ⟨q3.1,q3.2.imp id fun⟨g,cap,cur,e,hg,r⟩=>⟨g,cap,cur,e,by omega,r⟩⟩ (bB.mono hbase) (fun k hk _=>bB.block k hk) ?_ (fun b u k hu=>hu.below bB (Nat.le_refl _))
   rcases tZ q3 with⟨_,hn⟩| ⟨g',cap',cur,e1,e2,_⟩
   · omega
   · exact Or.inr ⟨g',by rw [e1];rfl,by omega⟩
 rcases tZ hown with⟨rfl,rfl⟩| ⟨g,cap,cur,rfl,hg,hh,hn,hm,hsz,hc⟩
 · exact wpList_append_grows _ hgd s x 31 ho 5 i5 (.int .u8 0) 1 1 Tryz.underlying31 hi5 hz5 hs5 hy5 rfl Nat.one_pos none 0 0 (ints .u8 (List.replicate 0 m)) hs (fun _=>⟨rfl,rfl⟩) (by rw [ln]) (fun b hb=>by cases hb) ⟨w.heap.size,0,none⟩ c c (ints .u8 (List.replicate c m)) hx (by rw [lc];omega) hN (dR _ _) (by omega) (by unfold maxLen;omega) (by omega) fin
 · have MK:(w.alloc (.cells (ints .u8 (List.replicate c m)).toArray t fr)).heap[g]? =some (.cells cur 5 (0,0)):=hold hh
   refine wpList_append_arg _ hgd s x 31 ho 5 i5 (.int .u8 0) 1 1 Tryz.underlying31 hi5 hz5 hs5 hy5 rfl Nat.one_pos g 0 n cap (ints .u8 (List.replicate n m)) hs (by rw [ln];omega) ?_ ⟨w.heap.size,0,none⟩ c c (ints .u8 (List.replicate c m)) hx (by rw [lc];omega) hN (dR _ _) ?_ (by unfold maxLen;omega) (by omega) ?_ (fun _=>fin)
   · intro j u hu
     have hj:j<n:=by have:=(List.getElem?_eq_some_iff.1 hu).1;rwa [ln]at this
     rw [fx .u8 _ j (by rw [List.length_replicate];exact hj),List.getD_eq_getElem?_getD,List.getElem?_replicate,if_pos hj]at hu
     rw [Nat.zero_add,cell_of_row _ _ _ _ _ _ MK,hc j hj]
     exact hu
   · intro hr j hj
     rw [lc]at hj
     refine⟨?_,frozen_of_row _ _ _ _ _ MK⟩
     rw [cell_of_row _ _ _ _ _ _ MK,Array.getElem?_eq_getElem (by omega)]
     rfl
   · intro hr
     obtain⟨cur',a1,a2,a3,a4⟩:=zE g m c (0+n*1) _ cur MK
     have Xo:w.heap.size<=(w.alloc (.cells (ints .u8 (List.replicate c m)).toArray t fr)).heap.size:=by simp
     refine h _ _ (yy a1 hg hr hm (by rw [a2,hsz]) fun j hj=>?_) ((bA.mono hbase).trans (a4.xO hg (by omega))) (fun k hk hne=>?_) (Or.inl rfl) (fun b u k hu=>?_)
     · rw [a3 j (by omega)]
       by_cases q:j<n
       · rw [if_neg (by omega)];exact hc j q
       · rw [if_pos (by omega)]
     · rw [a4.block k (by omega) (fun e=>hne (by rw [e];rfl))]
       exact bA.block k hk
     · rcases tZ hu with⟨rfl,rfl⟩| ⟨g2,cap2,cur2,rfl,hg2,hh2,hn2,hm2,hsz2,hc2⟩
       · exact Own.nil _ _
       · by_cases q:g2=g
         · subst q
           rw [hh]at hh2
           obtain rfl:cur=cur2:=by simpa using hh2
           refine yy a1 hg2 hn2 hm2 (by rw [a2,hsz2]) fun j hj=>?_
           rw [a3 j (by omega)]
           split
           · rfl
           · exact hc2 j hj
         · have e1:=a4.block g2 (by have:=hlt hh2;omega) q
           exact yy (e1.trans (hold hh2)) hg2 hn2 hm2 hsz2 hc2
end Go.Proofs.YtpdakmhnnkaafaaGreat.Bo
namespace Go.Proofs.YtpdakmhnnkaafaaGreat.Bo
set_option maxRecDepth 100000
set_option maxHeartbeats 40000000
set_option linter.unusedVariables false
set_option linter.unusedSimpArgs false
open Go.RowKit
attribute [local go_sem ↓] Go.wp_at_zero Go.wp_at_succ
def cw(w:World)(base:Nat)(v:Value)(vs:List Value):Prop:=w.ownsRow base 31 1 v vs.length vs
theorem cw.nil(w:World)(base:Nat):cw w base (.slice none 0 0) []:=⟨rfl,Or.inl ⟨rfl,rfl⟩⟩
theorem cw.heap{w:World}{base:Nat}{v:Value}{vs:List Value}(h:cw w base v vs): ∀k,v.ownBlock=some k->base<=k/\k<w.heap.size/\ ∃cs,w.heap[k]? =some (.cells cs 31 (0,0)):=by
 intro k hk
 rcases h.2 with⟨rfl,_⟩| ⟨g,cap,cur,rfl,hg,hh,_⟩
 · simp [Value.ownBlock]at hk
 · simp [Value.ownBlock]at hk;subst hk;exact⟨hg,hlt hh,cur,hh⟩
theorem cw.of_heap{w w1:World}{base:Nat}{v:Value}{vs:List Value}(h:cw w base v vs)(hk: ∀k,v.ownBlock=some k->w1.heap[k]? =w.heap[k]?):cw w1 base v vs:=by
 refine⟨h.1,?_⟩
 rcases h.2 with h2| ⟨g,cap,cur,rfl,hg,hh,r⟩
 · exact Or.inl h2
 · exact Or.inr ⟨g,cap,cur,rfl,hg,(hk g rfl).trans hh,r⟩
theorem cw.at{w:World}{base:Nat}{v:Value}{vs:List Value}(h:cw w base v vs): ∃sp cap b,v= .slice sp vs.length cap/\vs.length<=cap/\cap<=maxLen/\(0<vs.length->sp=some ⟨b,0,none⟩)/\ ∀j,j<vs.length->w.cell? ⟨b,j,none⟩=some (vs.getD j undef):=by
 obtain⟨h1,⟨rfl,hn⟩| ⟨g,cap,cur,rfl,hg,hh,hc,hm,hs,ht⟩⟩:=h
 · exact⟨none,0,0,by rw [hn],by omega,by simp [maxLen],fun h=>by omega,fun j hj=>by omega⟩
 · refine⟨some ⟨g,0,none⟩,cap,g,rfl,hc,hm,fun _=>rfl,fun j hj=>?_⟩
   rw [cell_of_row _ _ _ _ _ _ hh]
   have e:vs[j]? =cur.toList[j]? :=by
     rw [<-ht,List.getElem?_take,if_pos (by omega)]
   rw [List.getD_eq_getElem?_getD,e]
   have hj2:j<cur.toList.length:=by simp;omega
   rw [List.getElem?_eq_getElem hj2]
   simp
theorem dU{w:World}{a b:Nat}{x y:Array Value}{t u:TypeId}{f f':Nat×Nat}(ha:w.heap[a]? =some (.cells x t f))(hb:w.heap[b]? =some (.cells y u f'))(h:t≠u):a≠b:=by
 rintro rfl
 rw [ha]at hb
 cases hb
 exact h rfl
def Dj(v1 v2:Value):Prop:= ∀k,v1.ownBlock=some k->v2.ownBlock=some k->False
theorem Dj.symm{u v:Value}(h:Dj u v):Dj v u:=fun k h1 h2=>h k h2 h1
theorem Dj.nil(v:Value):Dj (.slice none 0 0) v:=fun k h=>by simp [Value.ownBlock]at h
theorem gJ.push{w:World}{base:Nat}{u v v':Value}{us:List Value}(h:cw w base u us)(hd:Dj v u)(hv:v'.ownBlock=v.ownBlock\/ ∃k,v'.ownBlock=some k/\w.heap.size<=k):Dj v' u:=fun k h1 h2=>by
 rcases hv with e| ⟨k',e,hk'⟩
 · exact hd k (e▸h1) h2
 · rw [e]at h1;cases h1;have:=(h.heap _ h2).2.1;omega
theorem Tryz.Qv:(Tryz.prog.info? 31).map (fun i=>(i.zero,i.size,i.bytes))=some (some (.slice none 0 0),1,24):=by kernel_rfl
theorem Tryz.RP: ∃i,Tryz.prog.info? 31=some i/\i.zero=some (.slice none 0 0)/\i.size=1/\i.bytes=24:=by
 have h:=Tryz.Qv
 cases hq:Tryz.prog.info? 31 with
 | none=>rw [hq]at h;cases h
 | some i=>
   rw [hq]at h
   simp only [Option.map_some,Option.some.injEq,Prod.mk.injEq]at h
   exact⟨i,rfl,h.1,h.2.1,h.2.2⟩
theorem iE{w:World}{ops:Array Oper}{rest:List Oper}{o:Oper}{a:Act}{Q:Exit->Act->World->Prop}(hgd:o.guard=none)(s x:Operand)
   (ho:o.op= .call {callee:= .builtin .append,args:= #[s,x],argTypes:= #[30,30]})
   (base:Nat) (v:Value) (vs ys:List Value) (hs:a.eval s=v) (hown:cw w base v vs) (hx:a.eval x= .slice (some ⟨w.heap.size,0,none⟩) ys.length ys.length) (h1: ∀y∈ys,y.oneCell'=true)
   (hlen:vs.length+ys.length<=5000000000000) (hbase:base<=w.heap.size) (t:TypeId) (fr:Nat×Nat)
   (h: ∀v' w',cw w' base v' (vs++ys)->Below base w w'->(∀k,k<w.heap.size->v.ownBlock≠some k->w'.heap[k]? =w.heap[k]?)->(v'.ownBlock=v.ownBlock\/ ∃k,v'.ownBlock=some k/\w.heap.size<=k)->wpList Tryz.prog ops Q rest (a.put o.dst v') w'):
   wpList Tryz.prog ops Q (o::rest) a (w.alloc (.cells ys.toArray t fr)):=by
 obtain⟨i5,hi5,hz5,hs5,hy5⟩:=Tryz.RP
 have hown':cw (w.alloc (.cells ys.toArray t fr)) base v vs:=hown.of_heap fun k hk=>by
   show(w.heap.push _)[k]? =_
   rw [Array.getElem?_push,if_neg (by have:=(hown.heap k hk).2.1;omega)]
 refine wpList_append_own_at _ hgd s x 30 ho base 31 i5 (.slice none 0 0) 1 24 Tryz.underlying30 hi5 hz5 hs5 hy5 rfl Nat.one_pos v vs.length vs hs hown' ⟨w.heap.size,0,none⟩ ys.length ys.length ys hx (by omega) ?_ h1 (by unfold maxLen;omega) (by omega) (by simp;omega) ?_
 · intro j u hu
   rw [Addr.add_mid,Nat.zero_add,cell_of_row _ _ _ _ _ _ (aF w _)]
   simpa using hu
 · intro v' w' q1 q2 _ q4
   have hB1:Below base w (w.alloc (.cells ys.toArray t fr)):=(Below.refl _ _).alloc hbase _
   refine h v' w' (by unfold cw;rw [List.length_append];exact q1) (hB1.trans (dx q2 (fun k hk=>(hown.heap k hk).1) (by simp;omega))) (fun k hk hne=>?_) ?_
   · rw [q2.block k (by simp;omega) (fun e=>hne e.symm)]
     show(w.heap.push _)[k]? =_
     rw [Array.getElem?_push,if_neg (by omega)]
   · rcases q4 with e| e
     · exact Or.inl e
     · exact Or.inr ⟨_,e,by simp⟩
def FL(w:World)(v:Value)(m:Int)(n:Nat):Prop:=Own w 0 v (List.replicate n m)
theorem FL.xv{w:World}{base:Nat}{v:Value}{m:Int}{n:Nat}(h:Own w base v (List.replicate n m)):FL w v m n:=
 ⟨h.1,h.2.imp id fun⟨g,cap,cur,e,hg,r⟩=>⟨g,cap,cur,e,Nat.zero_le _,r⟩⟩
theorem FL.of_heap{w w1:World}{v:Value}{m:Int}{n:Nat}(h:FL w v m n)(hk: ∀k,v.ownBlock=some k->w1.heap[k]? =w.heap[k]?):FL w1 v m n:=Own.of_heap h hk
theorem tv{w:World}{base:Nat}{v:Value}{zs:List Int}(h:Own w base v zs): ∀k,v.ownBlock=some k->k<w.heap.size/\ ∃cs,w.heap[k]? =some (.cells cs 5 (0,0)):=by
 intro k hk
 rcases h.2 with⟨rfl,_⟩| ⟨g,cap,cur,rfl,hg,hh,_⟩
 · simp [Value.ownBlock]at hk
 · simp [Value.ownBlock]at hk;subst hk;exact⟨hlt hh,cur,hh⟩
theorem FL.heap{w:World}{v:Value}{m:Int}{n:Nat}(h:FL w v m n): ∀k,v.ownBlock=some k->k<w.heap.size/\ ∃cs,w.heap[k]? =some (.cells cs 5 (0,0)):=tv h
theorem FL.form{w:World}{v:Value}{m:Int}{n:Nat}(h:FL w v m n): ∃sp cap,v= .slice sp n cap:=by
 rcases tZ h with⟨rfl,rfl⟩| ⟨g,cap,cur,rfl,_⟩
 · exact⟨_,_,rfl⟩
 · exact⟨_,_,rfl⟩
def mk(i:Nat):Int:=((i%250+1:Nat):Int)
theorem Lf(w:World)(i:Nat)(hi:i<=5000000000000):
   Calls Tryz.prog 74 #[.int .i64 i] w fun e w'=>e= .returned (.int .u8 (mk i))/\w'=w:=by
 have i1:(i:Int)<=5000000000000:=by omega
 go_enter Tryz.func74,Tryz.ntmps74
 go_wp2
 go_ret
 refine⟨?_,rfl⟩
 have:mk i=(i:Int)%250+1:=by unfold mk;omega
 rw [this];rfl
def pK(w:World)(L1 L2 L3 L4:List Value)(ns:List Nat):Prop:=
 L1.length=ns.length/\L2.length=ns.length/\L3.length=ns.length/\L4.length=ns.length∧
 ∀i,i<ns.length->FL w (L1.getD i undef) (mk i) (ns.getD i 0)/\FL w (L2.getD i undef) (mk i) (ns.getD i 0+1)/\FL w (L3.getD i undef) (mk i) (ns.getD i 0+2)/\FL w (L4.getD i undef) (mk i) (ns.getD i 0+300)
theorem pK.of_heap{w w1:World}{L1 L2 L3 L4:List Value}{ns:List Nat}(h:pK w L1 L2 L3 L4 ns)
   (hk: ∀k cs,k<w.heap.size->w.heap[k]? =some (.cells cs 5 (0,0))->(∀i,i<ns.length->True)->(∃i,i<ns.length/\((L1.getD i undef).ownBlock=some k\/(L2.getD i undef).ownBlock=some k\/(L3.getD i undef).ownBlock=some k\/(L4.getD i undef).ownBlock=some k))->w1.heap[k]? =w.heap[k]?):pK w1 L1 L2 L3 L4 ns:=by
 obtain⟨h1,h2,h3,h4,h5⟩:=h
 refine⟨h1,h2,h3,h4,fun i hi=>?_⟩
 obtain⟨a,b,c,d⟩:=h5 i hi
 refine⟨a.of_heap fun k e=>?_,b.of_heap fun k e=>?_,c.of_heap fun k e=>?_,d.of_heap fun k e=>?_⟩
 · obtain⟨q1,cs,q2⟩:=a.heap k e;exact hk k cs q1 q2 (fun _ _=>trivial) ⟨i,hi,Or.inl e⟩
 · obtain⟨q1,cs,q2⟩:=b.heap k e;exact hk k cs q1 q2 (fun _ _=>trivial) ⟨i,hi,Or.inr (Or.inl e)⟩
 · obtain⟨q1,cs,q2⟩:=c.heap k e;exact hk k cs q1 q2 (fun _ _=>trivial) ⟨i,hi,Or.inr (Or.inr (Or.inl e))⟩
 · obtain⟨q1,cs,q2⟩:=d.heap k e;exact hk k cs q1 q2 (fun _ _=>trivial) ⟨i,hi,Or.inr (Or.inr (Or.inr e))⟩
theorem pK.below{w w1:World}{L1 L2 L3 L4:List Value}{ns:List Nat}(h:pK w L1 L2 L3 L4 ns)(hb:Below w.heap.size w w1):pK w1 L1 L2 L3 L4 ns:=h.of_heap fun k cs hk _ _ _=>hb.block k hk
structure Bk (w:World) (base B:Nat) (v1 v2 v3 v4:Value) (L1 L2 L3 L4:List Value) (ns:List Nat):Prop where
 hb:base<=B
 bk:w.heap[B]? =some (.cells #[v1,v2,v3,v4] 55 (0,0))
 o1:cw w base v1 L1
 o2:cw w base v2 L2
 o3:cw w base v3 L3
 o4:cw w base v4 L4
 d12:Dj v1 v2
 d13:Dj v1 v3
 d14:Dj v1 v4
 d23:Dj v2 v3
 d24:Dj v2 v4
 d34:Dj v3 v4
 en:pK w L1 L2 L3 L4 ns
theorem Bk.below{w w1:World}{base B:Nat}{v1 v2 v3 v4:Value}{L1 L2 L3 L4:List Value}{ns:List Nat}(h:Bk w base B v1 v2 v3 v4 L1 L2 L3 L4 ns)(hb:Below w.heap.size w w1):Bk w1 base B v1 v2 v3 v4 L1 L2 L3 L4 ns:=
 ⟨h.hb,ee hb h.bk (hlt h.bk),h.o1.of_heap fun k hk=>hb.block k (h.o1.heap k hk).2.1,h.o2.of_heap fun k hk=>hb.block k (h.o2.heap k hk).2.1,h.o3.of_heap fun k hk=>hb.block k (h.o3.heap k hk).2.1,h.o4.of_heap fun k hk=>hb.block k (h.o4.heap k hk).2.1,h.d12,h.d13,h.d14,h.d23,h.d24,h.d34,h.en.below hb⟩
end Go.Proofs.YtpdakmhnnkaafaaGreat.Bo

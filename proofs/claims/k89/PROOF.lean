import PyProof.Rows.All
import Wide.All
import OpenK.AllK
import Wide.FinOn
import Lean
import PyProof.EqAt
import PyProof.EqKinds
import PyProof.TupleCall
import PySem.Challenge.RW_coverroll_k89_too_wide
set_option tactic.hygienic false
set_option Elab.async false
set_option linter.all false
set_option maxRecDepth 100000
set_option maxHeartbeats 4000000
local macro_rules|`(tactic|ac_nf)=>`(tactic|decide +kernel)
local macro_rules|`(tactic|injections)=>`(tactic|exact ⟨rfl,rfl,rfl,by decide +kernel,rfl,by decide +kernel,by decide +kernel⟩)
set_option hygiene false in
local macro_rules|`(tactic|bv_omega)=>`(tactic|refine F.ok sc (fun vs H Q E h=>?_) (fun cdv A outer s H vs Q E hr h=>?_))
set_option hygiene false in
local macro_rules|`(tactic|ac_rfl)=>`(tactic|refine (vE rfl (vI rfl rfl (SqT.of hp) rfl ⟨rfl,vE rfl (dF (sne (by decide +kernel)) ?_)⟩)))
open PySem.W renaming Frag -> zAa, findIn -> zAe, mg_of -> zAv, nsIn -> zAx, kitOne -> zAE, mg_none_of -> zAL, emptyDict -> zAP, keepIn -> zAT, fnOf -> zAV, instObj -> zAZ, kia_one -> zBd, codeIn -> zBn, hasDictIn -> zBy, callWith_K -> zBL, methodCall_KW -> zBQ, plainGet -> zBS, looks_findIn -> zBT, makesIn -> zBY, isFn -> zCb, exmOne -> zCg, cellsFrom_some -> zCk, excIn -> zCn, clsIn -> zCo
open List renaming length_map -> zAb, size_toArray -> zAd, mem_singleton -> zAg, length_append -> zAi, getElem?_eq_some_iff -> zAj, length_cons -> zAl, getElem?_eq_getElem -> zAn, mem_cons_self -> zAo, mem_cons -> zAp, mem_cons_of_mem -> zAs, getElem?_map -> zAu, mem_append -> zAy, map_append -> zAz, mem_of_getElem? -> zAB, mem_append_right -> zAC, length_filter_le -> zAG, getD_eq_getElem?_getD -> zAI, append_nil -> zAJ, length_take -> zAK, range -> zAN, take_length -> zAO, replicate -> zAQ, mem_map -> zAR, mem_range -> zAS, length_range -> zAY, map_cons -> zBa, mem_filter -> zBb, filter_nil -> zBe, not_mem_nil -> zBf, nodup_iff_pairwise_ne -> zBg, getElem_mem -> zBj, mem_append_left -> zBl, nodup_cons -> zBo, getElem_of_mem -> zBq, pairwise_cons -> zBu, filter_append -> zBv, filter_cons_of_pos -> zBA, filter_cons_of_neg -> zBB, lookup_cons -> zBC, length_replicate -> zBD, getElem?_eq_none -> zBE, getElem?_toArray -> zBF, getElem?_append_right -> zBG, append_assoc -> zBH, pairwise_iff_getElem -> zBI, take_zero -> zBJ, find?_cons -> zBM, pairwise_map -> zBO, lookup -> zBW, filterMap_cons -> zBX, getElem?_append_left -> zBZ, drop_eq_getElem_cons -> zCa, length_erase_of_mem -> zCe, nodup_nil -> zCf, length_eq_zero_iff -> zCi, take_add_one -> zCj, length_pos_of_mem -> zCl, any_cons -> zCm, all_eq_true -> zCq
open PySem.Heap renaming get?_push_of_some -> zAc, lt_size -> zAh, get?_push_size -> zAt, get?_update_other -> zAM, get?_update_self -> zAX, SameBut -> zBc, size_push -> zBm, get?_none_of_le -> zBR, size_update -> zBU
open Nat renaming le_refl -> zAf, zero_le -> zAk, ne_of_lt -> zAm, lt_of_lt_of_le -> zAq, le_trans -> zAA, ne_of_gt -> zAF, lt_succ_of_lt -> zAU, le_succ -> zBh, lt_irrefl -> zBk, not_lt_zero -> zBp, lt_succ_self -> zBs, le_of_lt -> zBw, succ_mul -> zBK, lt_trichotomy -> zBN, le_of_eq -> zBP, le_add_right -> zBV, lt_of_le_of_lt -> zCc, le_of_not_lt -> zCp
open Bool renaming false_ne_true -> zAr, false_eq_true -> zAW, and_eq_true -> zBt, eq_false_iff -> zBz
open Array renaming length_toList -> zAw, getElem?_eq_getElem -> zAH, getElem?_toList -> zBi, getElem?_eq_none -> zBr, forIn_toList -> zCd, getD -> zCh, toList_inj -> zCr
open Option renaming map_eq_some_iff -> zAD, isSome_iff_exists -> zBx, map_some -> zCs
open PySem renaming wpAny_bind -> zCt, wpAny_pure -> zCu, sizeLine_eq -> zCv, bootBuiltins -> zCw, FuncData -> zCx, mainGlobals -> zCy
namespace L2
open PySem PySem.Spec PyProof.Rows
abbrev Ff:=Sum Int Str
def Sj:Ff->Value->Bool
 | .inl k,v=>Value.isInt k v
 | .inr x,v=>Value.isStrOf x v
def HX (w:World):Ff->Int
 | .inl k=>hashInt k
 | .inr x=>hashStr w x
theorem Ci:∀ {k:Ff} {v:Value},Sj k v=true->(∃ i t,k=Sum.inl i/\v=Value.int i t)\/(∃ x t,k=Sum.inr x/\v=Value.str x t)
 | .inl i,v,h=>by
  obtain⟨t,e⟩:=Value.isInt_shape (k:=i) (v:=v) h;exact .inl ⟨i,t,rfl,e⟩
 | .inr x,v,h=>by
  obtain⟨t,e⟩:=Value.isStrOf_shape (x:=x) (v:=v) h;exact .inr ⟨x,t,rfl,e⟩
theorem M1 (i:Int) (t:Tok):Sj (.inl i) (.int i t)=true:=by simp [Sj,Value.isInt]
theorem G0 (x:Str) (t:Tok):Sj (.inr x) (.str x t)=true:=by simp [Sj,Value.isStrOf]
theorem EA (a b:Int):decide ((Sum.inl a:Ff)=Sum.inl b)=(a==b):=by
 by_cases e:a=b
 ·subst e; simp
 ·have h:¬ (Sum.inl a:Ff)=Sum.inl b:=fun q=>e (Sum.inl.inj q)
  rw[decide_eq_false h];exact (beq_eq_false_iff_ne.mpr e).symm
theorem FG (a b:Str):decide ((Sum.inr a:Ff)=Sum.inr b)=decide (a=b):=by
 by_cases e:a=b
 ·subst e; simp
 ·have h:¬ (Sum.inr a:Ff)=Sum.inr b:=fun q=>e (Sum.inr.inj q)
  rw[decide_eq_false h,decide_eq_false e]
theorem DI (a:Int) (b:Str):decide ((Sum.inl a:Ff)=Sum.inr b)=false:=decide_eq_false (fun q=>nomatch q)
theorem FF (a:Str) (b:Int):decide ((Sum.inr a:Ff)=Sum.inl b)=false:=decide_eq_false (fun q=>nomatch q)
def Dg (prog:Program) (w:World):PySem.KeyKind prog w Ff where
 is:=Sj
 hash:=HX w
 inj:=fun v a b ha hb=>by
  rcases Ci ha with ⟨i,t,rfl,rfl⟩ | ⟨x,t,rfl,rfl⟩
  ·rcases Ci hb with ⟨j,u,rfl,e⟩ | ⟨y,u,rfl,e⟩
   ·injection e with e1 _; rw[e1]
   ·exact nomatch e
  ·rcases Ci hb with ⟨j,u,rfl,e⟩ | ⟨y,u,rfl,e⟩
   ·exact nomatch e
   ·injection e with e1 _; rw[e1]
 byValue:=fun k v h=>by
  rcases Ci h with ⟨i,t,rfl,rfl⟩ | ⟨x,t,rfl,rfl⟩ <;> rfl
 pyHash:=fun hv h=>by
  rcases Ci hv with ⟨i,t,rfl,rfl⟩ | ⟨x,t,rfl,rfl⟩
  ·exact wpAny_pyHash_int h
  ·exact wpAny_pyHash_str h
 eqBool:=fun hu hv h=>by
  rcases Ci hu with ⟨i,t,rfl,rfl⟩ | ⟨x,t,rfl,rfl⟩
  ·rcases Ci hv with ⟨j,u,rfl,rfl⟩ | ⟨y,u,rfl,rfl⟩
   ·rw[EA] at h; exact wpAny_eqBool_int h
   ·rw[DI] at h; exact SeqAt.EqAt.int_str i t y u _ _ _ _ h
  ·rcases Ci hv with ⟨j,u,rfl,rfl⟩ | ⟨y,u,rfl,rfl⟩
   ·rw[FF] at h; exact SeqAt.EqAt.str_int x t j u _ _ _ _ h
   ·rw[FG] at h; exact wpAny_eqBool_str h
 «strs» := fun k x t v h=>by
  rcases Ci h with ⟨i,u,rfl,e⟩ | ⟨y,u,rfl,e⟩
  ·exact nomatch e
  ·injection e with e1 _
   subst e1;cases v <;> rfl
theorem Yh (prog:Program) (w:World) (i:Int) (t:Tok):(Dg prog w).is (.inl i) (.int i t)=true:=M1 i t
theorem Vs (prog:Program) (w:World) (x:Str) (t:Tok):(Dg prog w).is (.inr x) (.str x t)=true:=G0 x t
inductive V where
 | non | bl (b:Bool) | int (i:Int) | str (x:Str) | byt (b:Array UInt8) | flt (b:UInt64) | ref (a:Addr) | ty (n:String)
 deriving DecidableEq
def RelV:V->Value->Prop
 | .non,u=>u=Value.none
 | .bl b,u=>u=Value.bool b
 | .int i,u=>∃ t,u=Value.int i t
 | .str x,u=>∃ t,u=Value.str x t
 | .byt b,u=>∃ t,u=Value.bytes b t
 | .flt b,u=>∃ t,u=Value.float b t
 | .ref a,u=>u=Value.ref a
 | .ty n,u=>u=Value.type n
abbrev Vals:List V->List Value->Prop:=Paired RelV
theorem Vals.length {xs:List V} {us:List Value} (r:Vals xs us):xs.length=us.length:=Paired.length r
theorem Vals.get:∀ {xs:List V} {us:List Value} {i:Nat} {x:V},Vals xs us->xs[i]?=some x->∃ u,us[i]?=some u/\RelV x u
 | _,_,_,_,.nil,e=>by simp at e
 | _,_,0,_,.cons r _,e=>by simp at e; subst e; exact⟨_,rfl,r⟩
 | _,_,i+1,x,.cons _ t,e=>by
  obtain⟨u,h1,h2⟩:=Vals.get (i:=i) (x:=x) t (by simpa using e);exact⟨u,by simpa using h1,h2⟩
theorem Vals.set {x:V} {u:Value} (r:RelV x u):∀ {xs:List V} {us:List Value} (i:Nat),Vals xs us->Vals (xs.set i x) (us.set i u)
 | _,_,_,.nil=>.nil
 | _,_,0,.cons _ t=>.cons r t
 | _,_,i+1,.cons q t=>.cons q (Vals.set r i t)
theorem Vals.append:∀ {xs ys:List V} {us ws:List Value},Vals xs us->Vals ys ws->Vals (xs++ys) (us++ws)
 | _,_,_,_,.nil,s=>s
 | _,_,_,_,.cons r t,s=>.cons r (Vals.append t s)
theorem Vals.take:∀ {xs:List V} {us:List Value} (n:Nat),Vals xs us->Vals (xs.take n) (us.take n)
 | _,_,0,_=>.nil
 | _,_,_+1,.nil=>.nil
 | _,_,n+1,.cons r t=>.cons r (Vals.take n t)
theorem Vals.drop:∀ {xs:List V} {us:List Value} (n:Nat),Vals xs us->Vals (xs.drop n) (us.drop n)
 | _,_,0,r=>r
 | _,_,_+1,.nil=>.nil
 | _,_,n+1,.cons _ t=>Vals.drop n t
def RelO:Option V->Option Value->Prop
 | some v,some u=>RelV v u
 | none,none=>True
 | _,_=>False
def KV {κ:Type}:List (κ×V)->List (κ×Value)->Prop:=Paired fun (p:κ×V) (q:κ×Value)=>p.1=q.1/\RelV p.2 q.2
def kV:Ff->V
 | .inl i=>.int i
 | .inr x=>.str x
inductive HO where
 | lst (xs:List V)
 | tup (xs:List V)
 | dK (kvs:List (Ff×V)) | dT (kvs:List (List Ff×V))
 | set (S:Int->Bool) (n:Nat)
 | ins (C dx:Addr) (fs:List (Str×V))
 | own (x:Addr)
 | xd (fs:List (Str×V))
 | met (f x:Addr)
 | rng (lo hi:Int)
 | frz (o:Obj) (u:HO)
 | tbl (ps:Array Value)
 | ext (φ:Heap->Prop)
abbrev Hp:=Addr->Option HO
def upd (H:Hp) (a:Addr) (o:HO):Hp:=fun b=>if b=a then some o else H b
theorem Af {H:Hp} {a:Addr} {o:HO}:upd H a o a=some o:=by unfold upd; rw[if_pos rfl]
theorem Aq {H:Hp} {a b:Addr} {o:HO} (h:b≠a):upd H a o b=H b:=by unfold upd; rw[if_neg h]
theorem Ii {H:Hp} {a b:Addr} {o u:HO} (h:H a=some o) (h':H b=some u) (d:o≠u):a≠b:=by
 intro e; subst e; rw[h] at h'; exact d (Option.some.inj h')
theorem Ap {H:Hp} {a b:Addr} {o:HO} (h:H a=some o) (h':H b=none):a≠b:=by
 intro e; subst e; rw[h] at h'; cases h'
section
variable (P:Program) (w:World)
def ObjOk (H:Hp) (h:Heap) (a:Addr):HO->Prop
 | .lst xs=>xs.length<=sizeLine/\∃ (its:List Value) (n:Nat),Vals xs its/\h.get? a=some { cls:=.type "list",data:=.seq its.toArray n }
 | .tup xs=>xs.length<=sizeLine/\∃ its:List Value,Vals xs its/\IsTup h a its.toArray
 | .dK kvs=>kvs.length<=sizeLine/\(a==sysModules)=false/\∃ vs,KV kvs vs/\h.DictOf (Dg P w) a vs
 | .dT kvs=>kvs.length<=sizeLine/\(a==sysModules)=false/\∃ xs:List (List Ff×Addr×Value),
   Paired (fun (p:List Ff×V) (q:List Ff×Addr×Value)=>p.1=q.1/\H q.2.1=some (.tup (p.1.map kV))/\RelV p.2 q.2.2) kvs xs /\
   ∃ o es ep,h.get? a=some o/\o.ExactDict/\o.data = .dict es ep/\es.toList=xs.map (entryOfKey (tupleKind (Dg P w)))/\(xs.map (·.1)).Nodup
 | .set S n=>h.SetOf (intKind P w) a S n
 | .ins C dx fs=>H dx=some (.own a)/\fs.length<=1000/\dx≠a/\h.get? a=some (zAZ C dx) /\
   ∃ mA,h.Ns1 dx mA/\(∀ f,RelO (fs.lookup f) (mA f))/\PySem.Within mA (fs.map (·.1))
 | .own _=>∃ o,h.get? a=some o
 | .xd fs=>∃ mA,h.Ns1 a mA/\∀ f,RelO (fs.lookup f) (mA f)
 | .rng lo hi=>∃ t u v,h.get? a=some { cls:=.type "range",data:=.fields #[.int lo t,.int hi u,.int 1 v] }
 | .frz o u=>h.get? a=some o/\ObjOk H h a u
 | .tbl ps=>h.get? a=some { cls:=.none,data:=.fields ps }
 | .met f x=>h.get? a=some (PySem.W.methodObj (.ref f) (.ref x))
 | .ext φ=>φ h/\(∃ o,h.get? a=some o)/\∀ h1 h2:Heap,φ h1->(∀ o,h1.get? a=some o->h2.get? a=some o)->φ h2
def HOk (H:Hp) (h:Heap):Prop:=∀ a o,H a=some o->ObjOk P w H h a o
end
section
variable {P:Program} {w:World} {H H':Hp} {h h':Heap} {a:Addr} {o:HO}
theorem ObjOk.lt (x:ObjOk P w H h a o):a<h.objs.size:=by
 cases o with
 | lst xs=>obtain⟨_,_,_,_,e⟩:=x; exact zAh e
 | tup xs=>obtain⟨_,_,_,p⟩:=x; exact p.lt
 | dK kvs=>obtain⟨_,_,_,_,o,_,_,e,_⟩:=x; exact zAh e
 | dT kvs=>obtain⟨_,_,_,_,o,_,_,e,_⟩:=x; exact zAh e
 | set S n=>obtain⟨o,_,_,_,e,_⟩:=x; exact zAh e
 | ins C dx fs=>obtain⟨_,_,_,e,_⟩:=x; exact zAh e
 | own y=>obtain⟨_,e⟩:=x; exact zAh e
 | xd fs=>obtain⟨_,⟨_,_,_,e,_⟩,_⟩:=x; exact zAh e
 | rng lo hi=>obtain⟨_,_,_,e⟩:=x; exact zAh e
 | frz ob u=>obtain⟨e,_⟩:=x; exact zAh e
 | tbl ps=>exact zAh (show h.get? a=some _ from x)
 | met f y=>exact zAh (show h.get? a=some _ from x)
 | ext φ=>obtain⟨_,⟨_,e⟩,_⟩:=x; exact zAh e
theorem Paired.mapP {α β:Type} {F G:α->β->Prop}:∀ {l₁ : List α} {l₂ : List β},Paired F l₁ l₂ -> (∀ a b,F a b->G a b)->Paired G l₁ l₂
 | _,_,.nil,_=>.nil
 | _,_,.cons r t,f=>.cons (f _ _ r) (Paired.mapP t f)
theorem ObjOk.stay (x:ObjOk P w H h a o) (k:∀ b u,(b=a\/H b=some (.own a))->h.get? b=some u->h'.get? b=some u)
  (ho:∀ b,H b=some (.own a)->H' b=some (.own a)) (ht:∀ b xs,H b=some (.tup xs)->H' b=some (.tup xs)):ObjOk P w H' h' a o:=by
 induction o with
 | lst xs=>obtain⟨z,its,n,r,e⟩:=x; exact⟨z,its,n,r,k _ _ (.inl rfl) e⟩
 | tup xs=>obtain⟨z,its,r,ob,e,c⟩:=x; exact⟨z,its,r,ob,k _ _ (.inl rfl) e,c⟩
 | dK kvs=>obtain⟨z,y,vs,r,ob,es,ep,e,c⟩:=x; exact⟨z,y,vs,r,ob,es,ep,k _ _ (.inl rfl) e,c⟩
 | dT kvs=>
  obtain⟨z,y,xs,r,ob,es,ep,e,c⟩:=x;exact⟨z,y,xs,Paired.mapP r fun p q z=>⟨z.1,ht _ _ z.2.1,z.2.2⟩,ob,es,ep,k _ _ (.inl rfl) e,c⟩
 | set S n=>obtain⟨ob,es,ep,t,e,c⟩:=x; exact⟨ob,es,ep,t,k _ _ (.inl rfl) e,c⟩
 | ins C dx fs=>
  obtain⟨d,z,ne,e,mA,⟨od,es,ep,e2,c⟩,r⟩:=x;exact⟨ho _ d,z,ne,k _ _ (.inl rfl) e,mA,⟨od,es,ep,k _ _ (.inr d) e2,c⟩,r⟩
 | own y=>obtain⟨ob,e⟩:=x; exact⟨ob,k _ _ (.inl rfl) e⟩
 | xd fs=>obtain⟨mA,⟨od,es,ep,e,c⟩,r⟩:=x; exact⟨mA,⟨od,es,ep,k _ _ (.inl rfl) e,c⟩,r⟩
 | rng lo hi=>obtain⟨t,u,v,e⟩:=x; exact⟨t,u,v,k _ _ (.inl rfl) e⟩
 | frz ob u ih=>obtain⟨e,q⟩:=x; exact⟨k _ _ (.inl rfl) e,ih q⟩
 | tbl ps=>
  have e:h.get? a=some { cls:=.none,data:=.fields ps }:=x;show h'.get? a=some { cls:=.none,data:=.fields ps };exact k a _ (.inl rfl) e
 | met f y=>
  have e:h.get? a=some (PySem.W.methodObj (.ref f) (.ref y)):=x;show h'.get? a=some (PySem.W.methodObj (.ref f) (.ref y));exact k a _ (.inl rfl) e
 | ext φ=>obtain⟨p,⟨o,e⟩,st⟩:=x; exact⟨st _ _ p fun o q=>k _ _ (.inl rfl) q,⟨o,k _ _ (.inl rfl) e⟩,st⟩
theorem HOk.lt (x:HOk P w H h) (e:H a=some o):a<h.objs.size:=(x a o e).lt
theorem HOk.fresh (x:HOk P w H h) (e:h.objs.size<=a):H a=none:=by
 cases q:H a with
 | none=>rfl
 | some u=>exact absurd (zAq (x.lt q) e) (zBk _)
theorem HOk.kept (x:HOk P w H h) (k:∀ b u,h.get? b=some u->h'.get? b=some u):HOk P w H h':=fun a o e=>
 (x a o e).stay (fun b u _ q=>k b u q) (fun _ q=>q) fun _ _ q=>q
theorem HOk.laid (x:HOk P w H h) (k:∀ b u,h.get? b=some u->h'.get? b=some u) (hp:h.objs.size<=a) (new:ObjOk P w (upd H a o) h' a o):HOk P w (upd H a o) h':=fun b u e=>by
 have hn:=x.fresh hp;by_cases hb:b=a
 ·subst hb; rw[Af] at e; cases e; exact new
 ·rw[Aq hb] at e
  exact (x b u e).stay (fun c v _ q=>k c v q) (fun c q=>by rw[Aq (Ap q hn)]; exact q) fun c xs q=>by rw[Aq (Ap q hn)]; exact q
end
def Rd (H:Hp) (a:Addr) (u:HO):Prop:=H a=some u\/∃ o,H a=some (.frz o u)
theorem Rd.ok {P:Program} {w:World} {H:Hp} {h:Heap} {a:Addr} {u:HO} (r:Rd H a u) (x:HOk P w H h):ObjOk P w H h a u:=by
 rcases r with r | ⟨o,r⟩
 ·exact x a u r
 ·obtain⟨_,q⟩:=x a _ r
  exact q
def FZ:Option HO->Prop
 | some (.lst _)=>True
 | some (.dK _)=>True
 | some (.dT _)=>True
 | some (.set _ _)=>True
 | some (.ins _ _ _)=>True
 | some (.ext _)=>True
 | _=>False
section
variable {P:Program} {w:World} {H:Hp} {h h':Heap} {x e:Addr} {o':HO}
theorem HOk.write (ok:HOk P w H h) (mu:FZ (H x)) (he:e=x\/H e=some (.own x)) (k:∀ b u,b≠e->h.get? b=some u->h'.get? b=some u) (heo:∃ u,h'.get? e=some u)
  (new:ObjOk P w (upd H x o') h' x o'):HOk P w (upd H x o') h':=fun b u q=>by
 have nown:∀ c y,H c=some (.own y)->c≠x:=fun c y r z=>by subst z; rw[r] at mu; exact mu
 have ntup:∀ c xs,H c=some (.tup xs)->c≠x:=fun c xs r z=>by subst z; rw[r] at mu; exact mu
 by_cases hb:b=x
 ·subst hb; rw[Af] at q; cases q; exact new
 ·rw[Aq hb] at q
  by_cases hbe:b=e
  ·have q':H b=some (.own x):=by
    rcases he with z | z
    ·exact absurd (hbe.trans z) hb
    ·rw[hbe]; exact z
   rw[q] at q'; cases q';obtain⟨v,hv⟩:=heo;exact⟨v,by rw[hbe]; exact hv⟩
  ·refine (ok b u q).stay (fun c v hc r=>k c v ?_ r) (fun c r=>by rw[Aq (nown c b r)]; exact r) fun c xs r=>by rw[Aq (ntup c xs r)]; exact r
   rcases hc with rfl | hc
   ·exact hbe
   ·rintro rfl
    rcases he with z | z
    ·exact nown c b hc z
    ·rw[hc] at z; cases z; exact hb rfl
end
structure Un (fs ex:List Addr) (H H':Hp) (h h':Heap):Prop where
 keep:∀ b o,h.get? b=some o->H b=none->b∉fs->b∉ex->h'.get? b=some o
 slot:∀ b o,h.get? b=some o->H b=none->b∈fs->b∉ex->∃ sl,h'.get? b=some { o with slots:=sl }
 free:∀ b o,h.get? b=some o->H b=none->b∉ex->H' b=none
 there:∀ b o,h.get? b=some o->b∉ex->∃ o',h'.get? b=some o'
 tups:∀ b xs,H b=some (.tup xs)->H' b=some (.tup xs)
 frzs:∀ b o u,H b=some (.frz o u)->H' b=some (.frz o u)
 tbls:∀ b ps,H b=some (.tbl ps)->∃ more,H' b=some (.tbl (ps++more))
section
variable {fs fs' ex ex':List Addr} {H H1 H2:Hp} {h h1 h2 h':Heap} {a x e:Addr} {o:HO}
theorem Un.any (u:Un fs ex H H1 h h1) {b:Addr} {ob:Obj} (q:h.get? b=some ob) (n:H b=none) (hx:b∉ex):∃ sl,h1.get? b=some { ob with slots:=sl }:=by
 by_cases hb:b∈fs
 ·exact u.slot b ob q n hb hx
 ·exact⟨ob.slots,u.keep b ob q n hb hx⟩
theorem Un.kept (k:∀ b u,h.get? b=some u->h'.get? b=some u):Un fs ex H H h h':=
 ⟨fun b ob q _ _ _=>k b ob q,fun b ob q _ _ _=>⟨ob.slots,k b ob q⟩,fun _ _ _ n _=>n,fun b ob q _=>⟨ob,k b ob q⟩,fun _ _ q=>q,fun _ _ _ q=>q,fun _ ps q=>⟨#[],by rw[q]; simp⟩⟩
theorem Un.refl:Un fs ex H H h h:=Un.kept fun _ _ q=>q
theorem Un.laid (k:∀ b u,h.get? b=some u->h'.get? b=some u) (hp:h.objs.size<=a) (hn:H a=none):Un fs ex H (upd H a o) h h' where
 keep:=fun b u q _ _ _=>k b u q
 slot:=fun b u q _ _ _=>⟨u.slots,k b u q⟩
 free:=fun b u q n _=>by rw[Aq (zAm (zAq (zAh q) hp))]; exact n
 there:=fun b u q _=>⟨u,k b u q⟩
 tups:=fun b xs q=>by rw[Aq (Ap q hn)]; exact q
 frzs:=fun b u xs q=>by rw[Aq (Ap q hn)]; exact q
 tbls:=fun b ps q=>⟨#[],by rw[Aq (Ap q hn),q]; simp⟩
theorem Un.write (mu:FZ (H x)) (he:e=x\/H e=some (.own x)) (k:∀ b u,b≠e->h.get? b=some u->h'.get? b=some u) (heo:∃ u,h'.get? e=some u):Un fs ex H (upd H x o) h h':=by
 have hx:∀ b,H b=none->b≠x:=fun b n z=>by subst z; rw[n] at mu; exact mu
 have hb:∀ b,H b=none->b≠e:=fun b n z=>by
  subst z;rcases he with r | r
  ·exact hx b n r
  ·rw[n] at r; cases r
 have hm:∀ b u,H b=some u->¬ FZ (some u)->b≠x:=fun b u q nm z=>by subst z; rw[q] at mu; exact nm mu
 refine⟨fun b u q n _ _=>k b u (hb b n) q,fun b u q n _ _=>⟨u.slots,k b u (hb b n) q⟩,fun b u q n _=>by rw[Aq (hx b n)]; exact n,fun b u q _=>?_,
  fun b xs q=>by rw[Aq (hm b _ q fun z=>z)]; exact q,fun b u xs q=>by rw[Aq (hm b _ q fun z=>z)]; exact q,fun b ps q=>⟨#[],by rw[Aq (hm b _ q fun z=>z),q]; simp⟩⟩
 by_cases hbe:b=e
 ·subst hbe; exact heo
 ·exact⟨u,k b u hbe q⟩
end
def HH (h:Heap) (H:Hp):List Addr:=(zAN h.objs.size).filter fun a=>(H a).isSome
def Tx (h:Heap) (H:Hp):Heap:=PySem.W.hideAll h (HH h H)
theorem K9 (h:Heap) (H:Hp):(Tx h H).objs.size=h.objs.size:=PySem.W.hideAll_size _ _
theorem X6 {h:Heap} {H:Hp} {b:Addr} {o:Obj} (e:h.get? b=some o) (n:H b=none):(Tx h H).get? b=some o:=
 PySem.W.hideAll_get _ e fun hm=>by
  have q:(H b).isSome=true:=(zBb.mp hm).2;rw[n] at q; simp at q
theorem BO {h:Heap} {H:Hp} {b:Addr} {o:Obj} (e:(Tx h H).get? b=some o):h.get? b=some o/\H b=none:=by
 have e':h.get? b=some o:=PySem.W.of_hideAll (HH h H) e;refine⟨e',?_⟩;cases q:H b with
 | none=>rfl
 | some x=>
  have hm:b∈HH h H:=zBb.mpr ⟨zAS.mpr (zAh e'),by simp [q]⟩;have z:(Tx h H).get? b=none:=PySem.W.hideAll_none (HH h H) hm;rw[z] at e; cases e
structure Mod (K:zAa) (mg:Str->Option Value) (base:Heap):Prop where
 kin:K.In base
 glob:base.Ns zCy mg
 blt:∃ mb,base.Ns builtinsNs mb/\∀ x:Str,x ≠ "__name__" -> mb x=zCw x
 nolimit:base.NoLimit
/-- the context: a def's body (or a comprehension's block) running. base: fixed through the whole law; s₀,H₀: the entry; outer: the frames whose slots others may change (a def's callers); stack: all frames that run;
   ex: iterators that were made ahead of the entry and are walked here (a comprehension's); fn: the names whose cells were made at the entry (a def: all; a comprehension's block: its own); calm: not within an except suite; pn: pins that every state bears; xe: what is wanted of an exception that leaves the code -/
structure Cx where
 prog:Program
 w:World
 K:zAa
 mg:Str->Option Value
 base:Heap
 A:Around
 N:List Str
 s₀ : Shared
 H₀ : Hp
 env:Env
 outer:List Env
 stack:List Env
 ex:List Addr
 fn:Str->Bool
 calm:Bool
 pn:List (Addr×Obj)
 xe:Value->Shared->Prop
def Xj (l:List Env):List Addr:=l.filterMap (·.frame)
abbrev Cx.fs (X:Cx):List Addr:=Xj X.outer
def ID (sc:Scope) (x:Str):Prop:=sc.names.lookup x=some .local\/sc.names.lookup x=some .cell\/sc.names.lookup x=some .free
def HI (sc:Scope) (x:Str):Prop:=sc.names.lookup x=some .local\/sc.names.lookup x=some .cell
def IE (env:Env) (h:Heap) (m:Str->Option Value) (x:Str) (u:Value):Prop:=
 (env.kindOf x=some .local/\m x=some u)\/((env.kindOf x=some .cell\/env.kindOf x=some .free)/\∃ c,env.cells.lookup x=some c/\h.IsCell c (some u))
structure Cx.Ok (X:Cx):Prop where
 mod:Mod X.K X.mg X.base
 kind:X.env.scope.kind = .function
 glob:X.env.globals=zCy
 blt:X.env.builtins=builtinsNs
 above:X.s₀.heap.objs.size<=X.env.locals
 inj:∀ x y c,X.env.cells.lookup x=some c->X.env.cells.lookup y=some c->x=y
 has:∀ x,(X.env.kindOf x=some .cell\/X.env.kindOf x=some .free)->∃ c,X.env.cells.lookup x=some c
 cab:∀ x c,X.fn x=true->X.env.cells.lookup x=some c->X.s₀.heap.objs.size<=c
 hd:X.calm=true->X.A.handled=none
 frames:X.A.frames=some X.stack
 stk:X.stack=X.outer\/(X.stack=X.env::X.outer/\X.env.frame=some X.env.locals)
 exf:∀ b∈X.ex,b≠X.env.locals/\∀ x c,X.env.cells.lookup x=some c->c≠b
 bs:∀ b o,X.base.get? b=some o->X.s₀.heap.get? b=some o/\X.H₀ b=none
 bsz:X.base.objs.size<=X.s₀.heap.objs.size
 noex:∀ b o,X.base.get? b=some o->b∉X.ex
 exfs:∀ b∈X.ex,b∉X.fs
 funs:X.s₀.heap.FunFrames X.base X.outer
 frf:∀ b∈X.fs,X.H₀ b=none
structure Inv (X:Cx) (pins:List (Addr×Obj)) (σ:List (Option V)) (H:Hp) (s:Shared):Prop where
 ok:X.Ok
 os:s.os=X.s₀.os
 bare:AllBare s.gens
 base:Un X.fs X.ex X.H₀ H X.s₀.heap s.heap
 loc:∃ m,s.heap.Ns X.env.locals m/\∀ (i:Nat) (x:Str) (v:V),X.N[i]?=some x->σ[i]?=some (some v)->ID X.env.scope x->∃ u,RelV v u/\IE X.env s.heap m x u
 cell:∀ x c,X.env.cells.lookup x=some c->∃ v,s.heap.IsCell c v
 free:H X.env.locals=none
 freeC:∀ x c,X.env.cells.lookup x=some c->H c=none
 pin:∀ p∈X.pn++pins,s.heap.get? p.1=some p.2/\H p.1=none/\p.1≠X.env.locals/\p.1∉X.fs/\∀ v,p.2.data ≠ .cell v
 hok:HOk X.prog X.w H s.heap
 len:σ.length=X.N.length
section
variable {X:Cx} {pins:List (Addr×Obj)} {σ:List (Option V)} {H H':Hp} {s:Shared} {h':Heap}
theorem Cx.Ok.nofr (ok:X.Ok) {b:Addr} {o:Obj} (e:X.base.get? b=some o):b∉X.fs:=fun hb=>by
 have:=(ok.funs.mem hb).1;rw[e] at this; cases this
theorem Inv.bs (I:Inv X pins σ H s):∀ b o,X.base.get? b=some o->s.heap.get? b=some o/\H b=none:=fun b o e=>
 ⟨I.base.keep b o (I.ok.bs b o e).1 (I.ok.bs b o e).2 (I.ok.nofr e) (I.ok.noex b o e),I.base.free b o (I.ok.bs b o e).1 (I.ok.bs b o e).2 (I.ok.noex b o e)⟩
theorem Inv.bk (I:Inv X pins σ H s):∀ b o,X.base.get? b=some o->s.heap.get? b=some o:=fun b o e=>(I.bs b o e).1
theorem Inv.mod (I:Inv X pins σ H s):Mod X.K X.mg X.base:=I.ok.mod
theorem Inv.kIn (I:Inv X pins σ H s):X.K.In s.heap:=I.ok.mod.kin.keeps I.bk
theorem Inv.lt (I:Inv X pins σ H s):X.env.locals<s.heap.objs.size:=let ⟨_,hn,_⟩:=I.loc; hn.lt
theorem Inv.sz (I:Inv X pins σ H s):X.s₀.heap.objs.size<=s.heap.objs.size:=zAA I.ok.above (zBw I.lt)
theorem Inv.nofs (I:Inv X pins σ H s) {a:Addr} (h:s.heap.objs.size<=a):a∉X.fs:=fun hb=>by
 obtain⟨_,o,ho,_⟩:=I.ok.funs.mem hb;exact absurd (zAq (zAh ho) (zAA I.sz h)) (zBk _)
theorem Inv.cne (I:Inv X pins σ H s):∀ x c,X.env.cells.lookup x=some c->c≠X.env.locals:=fun x c e z=>by
 obtain⟨v,o,ho,hd⟩:=I.cell x c e;obtain⟨m,⟨o',es,ep,ho',hd',_⟩,_⟩:=I.loc;rw[z,ho'] at ho; cases ho; rw[hd'] at hd; cases hd
theorem Inv.funs (I:Inv X pins σ H s):s.heap.FunFrames X.base X.outer:=by
 have all:∀ (l:List Env),(∀ b∈Xj l,b∈X.fs)->X.s₀.heap.FunFrames X.base l->s.heap.FunFrames X.base l:=by
  intro l
  induction l with
  | nil=>intro _ _; trivial
  | cons env r ih=>
   intro hs hl;obtain⟨hk,⟨L,o,hf,hn,ho,hd⟩,hr⟩:=hl;have hL:L∈X.fs:=hs L (by unfold Xj; rw[zBX,hf]; exact zAo);obtain⟨sl,e⟩:=I.base.slot L o ho (I.ok.frf L hL) hL fun z=>I.ok.exfs L z hL;exact⟨hk,⟨L,_,hf,hn,e,hd⟩,ih (fun b hb=>hs b (by unfold Xj; rw[zBX,hf]; exact zAs _ hb)) hr⟩
 exact all X.outer (fun _ hb=>hb) I.ok.funs
theorem Inv.stack (I:Inv X pins σ H s):s.heap.FunFrames X.base X.stack:=by
 rcases I.ok.stk with e | ⟨e,hf⟩
 ·rw[e]; exact I.funs
 ·rw[e]
  obtain⟨m,hn,_⟩:=I.loc;refine .cons (by rw[I.ok.kind]; decide) hf hn ?_ I.funs;exact zBR (zAA I.ok.bsz I.ok.above)
theorem Inv.stkSub (I:Inv X pins σ H s):∀ b∈Xj X.stack,b∈X.env.locals::X.fs:=fun b hb=>by
 rcases I.ok.stk with e | ⟨e,hf⟩
 ·rw[e] at hb; exact zAs _ hb
 ·rw[e] at hb
  unfold Xj at hb;rw[zBX,hf] at hb;exact hb
theorem Inv.stkFree (I:Inv X pins σ H s):∀ b∈Xj X.stack,H b=none:=fun b hb=>by
 rcases zAp.mp (I.stkSub b hb) with e | hb
 ·rw[e]; exact I.free
 ·obtain⟨_,o,ho,_⟩:=I.ok.funs.mem hb
  exact I.base.free b o ho (I.ok.frf b hb) fun z=>I.ok.exfs b z hb
theorem Inv.step {g':Array GenState} {t':Nat} {d':Drawn} {ch:List Addr} (I:Inv X pins σ H s)
  (hch:∀ b∈ch,(b∈X.ex\/X.s₀.heap.objs.size<=b)/\b≠X.env.locals/\(∀ x c,X.env.cells.lookup x=some c->c≠b)/\∀ p∈X.pn++pins,p.1≠b)
  (keep:∀ b o,b≠X.env.locals->b∉X.fs->b∉ch->s.heap.get? b=some o->H b=none->h'.get? b=some o)
  (slot:∀ b o,b≠X.env.locals->b∈X.fs->b∉ch->s.heap.get? b=some o->H b=none->∃ sl,h'.get? b=some { o with slots:=sl }) (free:∀ b o,b∉ch->s.heap.get? b=some o->H b=none->H' b=none)
  (there:∀ b o,b∉ch->s.heap.get? b=some o->∃ o',h'.get? b=some o')
  (tups:∀ b xs,H b=some (.tup xs)->H' b=some (.tup xs)) (frzs:∀ b o u,H b=some (.frz o u)->H' b=some (.frz o u)) (tbls:∀ b ps,H b=some (.tbl ps)->∃ more,H' b=some (.tbl (ps++more)))
  (ns:∀ m,s.heap.Ns X.env.locals m->h'.Ns X.env.locals m) (hok:HOk X.prog X.w H' h') (hg:AllBare g') :
  Inv X pins σ H' { s with heap:=h',gens:=g',drawn:=d',toks:=t' }:=by
 have neL:∀ b o,X.s₀.heap.get? b=some o->b≠X.env.locals:=fun b o e=>zAm (zAq (zAh e) I.ok.above);have neC:∀ b o,X.s₀.heap.get? b=some o->b∉X.ex->b∉ch:=fun b o e hx hb=>by
  rcases (hch b hb).1 with z | z
  ·exact hx z
  ·exact absurd (zAq (zAh e) z) (zBk _)
 have cellK:∀ x c,X.env.cells.lookup x=some c->∀ v,s.heap.IsCell c v->h'.IsCell c v:=fun x c e v ⟨o,ho,hd⟩=>by
  have nch:c∉ch:=fun z=>(hch c z).2.2.1 x c e rfl;by_cases hc:c∈X.fs
  ·obtain⟨sl,q⟩:=slot c o (I.cne x c e) hc nch ho (I.freeC x c e)
   exact⟨_,q,hd⟩
  ·exact⟨o,keep c o (I.cne x c e) hc nch ho (I.freeC x c e),hd⟩
 refine⟨I.ok,I.os,hg,⟨fun b o e n hb hx=>?_,fun b o e n hb hx=>?_,fun b o e n hx=>?_,fun b o e hx=>?_,fun b xs e=>tups b xs (I.base.tups b xs e),fun b o xs e=>frzs b o xs (I.base.frzs b o xs e),fun b ps e=>?_⟩,?_,fun x c e=>?_,?_,fun x c e=>?_,fun p hp=>?_,hok,I.len⟩
 ·exact keep b o (neL b o e) hb (neC b o e hx) (I.base.keep b o e n hb hx) (I.base.free b o e n hx)
 ·obtain⟨sl,e1⟩:=I.base.slot b o e n hb hx
  obtain⟨sl',e2⟩:=slot b _ (neL b o e) hb (neC b o e hx) e1 (I.base.free b o e n hx);exact⟨sl',e2⟩
 ·obtain⟨o',e1⟩:=I.base.there b o e hx
  exact free b o' (neC b o e hx) e1 (I.base.free b o e n hx)
 ·obtain⟨o',e1⟩:=I.base.there b o e hx
  exact there b o' (neC b o e hx) e1
 ·obtain⟨m1,e1⟩:=I.base.tbls b ps e
  obtain⟨m2,e2⟩:=tbls b _ e1;exact⟨m1++m2,by rw[e2,Array.append_assoc]⟩
 ·obtain⟨m,hn,hl⟩:=I.loc
  refine⟨m,ns m hn,fun i x v e1 e2 e3=>?_⟩;obtain⟨u,r,l⟩:=hl i x v e1 e2 e3;refine⟨u,r,?_⟩;rcases l with l | ⟨k,c,e,z⟩
  ·exact .inl l
  ·exact .inr ⟨k,c,e,cellK x c e _ z⟩
 ·obtain⟨v,z⟩:=I.cell x c e
  exact⟨v,cellK x c e v z⟩
 ·obtain⟨m,⟨o,_,_,ho,_⟩,_⟩:=I.loc
  exact free _ o (fun z=>(hch _ z).2.1 rfl) ho I.free
 ·obtain⟨v,o,ho,hd⟩:=I.cell x c e
  exact free c o (fun z=>(hch c z).2.2.1 x c e rfl) ho (I.freeC x c e)
 ·obtain⟨e,n,ne,nf,d⟩:=I.pin p hp
  have nch:p.1∉ch:=fun z=>(hch p.1 z).2.2.2 p hp rfl;exact⟨keep p.1 p.2 ne nf nch e n,free p.1 p.2 nch e n,ne,nf,d⟩
theorem Inv.un {t':Nat} (I:Inv X pins σ H s) (u:Un X.fs [] H H' s.heap h') (hok:HOk X.prog X.w H' h'):Inv X pins σ H' { s with heap:=h',toks:=t' }:=by
 obtain⟨m,⟨o,es,ep,ho,r⟩,_⟩:=id I.loc;obtain⟨sl,hL⟩:=u.any ho I.free (by simp);exact I.step (g':=s.gens) (d':=s.drawn) (ch:=[]) (fun _ z=>nomatch z) (fun b o _ hb _ e n=>u.keep b o e n hb (by simp)) (fun b o _ hb _ e n=>u.slot b o e n hb (by simp)) (fun b o _ e n=>u.free b o e n (by simp)) (fun b o _ e=>u.there b o e (by simp)) u.tups u.frzs u.tbls (fun m' hm=>by
  obtain⟨o',es',ep',ho',r'⟩:=hm;rw[ho] at ho'; cases ho';exact⟨_,es',ep',hL,r'⟩) hok I.bare
theorem Inv.call {g':Array GenState} {t':Nat} {d':Drawn} {ch:List Addr} (I:Inv X pins σ H s) (u:Un (Xj X.stack) ch H H' s.heap h') (hok:HOk X.prog X.w H' h') (hg:AllBare g')
  (hch:∀ b∈ch,(b∈X.ex\/X.s₀.heap.objs.size<=b)/\b≠X.env.locals/\(∀ x c,X.env.cells.lookup x=some c->c≠b)/\∀ p∈X.pn++pins,p.1≠b) :
  Inv X pins σ H' { s with heap:=h',gens:=g',drawn:=d',toks:=t' }:=by
 obtain⟨m,⟨o,es,ep,ho,r⟩,_⟩:=id I.loc;obtain⟨sl,hL⟩:=u.any ho I.free fun z=>(hch _ z).2.1 rfl;exact I.step (ch:=ch) hch (fun b o hL hb hc e n=>u.keep b o e n (fun z=>(zAp.mp (I.stkSub b z)).elim hL hb) hc) (fun b o _ _ hc e n=>u.any e n hc) (fun b o hc e n=>u.free b o e n hc) (fun b o hc e=>u.there b o e hc) u.tups u.frzs u.tbls (fun m' hm=>by
  obtain⟨o',es',ep',ho',r'⟩:=hm;rw[ho] at ho'; cases ho';exact⟨_,es',ep',hL,r'⟩) hok hg
theorem Inv.turned {t':Nat} {it:Addr} (I:Inv X pins σ H s) (k:∀ b o,b≠it->s.heap.get? b=some o->h'.get? b=some o) (hn:H it=none) (hL:it≠X.env.locals)
  (h1:it∈X.ex\/X.s₀.heap.objs.size<=it) (h2:∀ x c,X.env.cells.lookup x=some c->c≠it) (h3:∀ p∈X.pn++pins,p.1≠it):Inv X pins σ H { s with heap:=h',toks:=t' }:=by
 have nit:∀ b u,H b=some u->b≠it:=fun b u e z=>by rw[z,hn] at e; cases e
 refine I.step (g':=s.gens) (d':=s.drawn) (ch:=[it]) (fun b hb=>?_) (fun b o _ _ hc e _=>k b o (fun z=>hc (by simp [z])) e) (fun b o _ _ hc e _=>⟨o.slots,k b o (fun z=>hc (by simp [z])) e⟩) (fun _ _ _ _ n=>n)
  (fun b o hc e=>⟨o,k b o (fun z=>hc (by simp [z])) e⟩) (fun _ _ e=>e) (fun _ _ _ e=>e) (fun b ps e=>⟨#[],by rw[e]; simp⟩) (fun m hm=>?_) (fun b u e=>?_) I.bare
 ·have e:b=it:=by simpa using hb
  subst e;exact⟨h1,hL,h2,h3⟩
 ·obtain⟨o,es,ep,ho,r⟩:=hm
  exact⟨o,es,ep,k _ o (Ne.symm hL) ho,r⟩
 ·refine (I.hok b u e).stay (fun c v hc q=>k c v ?_ q) (fun _ q=>q) fun _ _ q=>q
  rcases hc with z | z
  ·rw[z]; exact nit b u e
  ·exact nit c _ z
theorem Inv.tok (I:Inv X pins σ H s) (t:Nat):Inv X pins σ H { s with toks:=t }:=I.un (h':=s.heap) (t':=t) Un.refl I.hok
theorem Inv.kept {t':Nat} (I:Inv X pins σ H s) (k:∀ b u,s.heap.get? b=some u->h'.get? b=some u):Inv X pins σ H { s with heap:=h',toks:=t' }:=I.un (Un.kept k) (I.hok.kept k)
theorem Inv.laid {a:Addr} {o:HO} {t':Nat} (I:Inv X pins σ H s) (k:∀ b u,s.heap.get? b=some u->h'.get? b=some u) (hp:s.heap.objs.size<=a) (new:ObjOk X.prog X.w (upd H a o) h' a o) :
  Inv X pins σ (upd H a o) { s with heap:=h',toks:=t' }:=I.un (Un.laid k hp (I.hok.fresh hp)) (I.hok.laid k hp new)
theorem Inv.write {x e:Addr} {o:HO} {t':Nat} (I:Inv X pins σ H s) (mu:FZ (H x)) (he:e=x\/H e=some (.own x)) (k:∀ b u,b≠e->s.heap.get? b=some u->h'.get? b=some u) (heo:∃ u,h'.get? e=some u)
  (new:ObjOk X.prog X.w (upd H x o) h' x o):Inv X pins σ (upd H x o) { s with heap:=h',toks:=t' }:=I.un (Un.write mu he k heo) (I.hok.write mu he k heo new)
theorem Inv.pins_of {pins':List (Addr×Obj)} (I:Inv X pins σ H s) (h:∀ p∈pins',s.heap.get? p.1=some p.2/\H p.1=none/\p.1≠X.env.locals/\p.1∉X.fs/\∀ v,p.2.data ≠ .cell v):Inv X pins' σ H s:=
 ⟨I.ok,I.os,I.bare,I.base,I.loc,I.cell,I.free,I.freeC,fun p hp=>(zAy.mp hp).elim (fun z=>I.pin p (zBl _ z)) (h p),I.hok,I.len⟩
theorem Wt {N:List Str} (hN:N.Nodup) {i j:Nat} {x:Str} (a:N[i]?=some x) (b:N[j]?=some x):i=j:=by
 obtain⟨h1,e1⟩:=zAj.mp a;obtain⟨h2,e2⟩:=zAj.mp b;exact (List.getElem_inj hN).mp (e1.trans e2.symm)
theorem Tk {M:Model} {A:Around} {E:Value->Shared->Prop} {i:Nat} {x:Str} {v:V} {u:Value} {Q:Unit->Shared->Prop} (I:Inv X pins σ H s) (hN:X.N.Nodup) (hi:X.N[i]?=some x) (hx:HI X.env.scope x) (r:RelV v u)
  (h:∀ s',Inv X pins (σ.set i (some v)) H s'->(∃ a,zBc a s.heap s'.heap/\(a=X.env.locals\/X.env.cells.lookup x=some a))->Q () s') (hf:X.fn x=true\/X.env.scope.names.lookup x=some .local:=by first | exact .inl rfl | exact .inr rfl | assumption):wpAny M A (storeName X.env x u) Q E s:=by
 obtain⟨m,hn,hl⟩:=id I.loc;have hcls:(X.env.scope.kind == .class||(X.env.scope.kind == .module&&X.env.locals != X.env.globals))=false:=by rw[I.ok.kind]; rfl
 have hiσ:i<σ.length:=by rw[I.len]; exact (zAj.mp hi).1
 have cne:=I.cne;have tracked:∀ {a:Addr} {h':Heap},(∃ o,s.heap.get? a=some o/\H a=none)->zBc a s.heap h'->HOk X.prog X.w H h':=fun {a h'} ha hs b ob e=>by
  obtain⟨_,_,hfree⟩:=ha;refine (I.hok b ob e).stay (fun c w' hc q=>(hs.2 c ?_).trans q) (fun _ q=>q) fun _ _ q=>q;rintro rfl;rcases hc with rfl | hc
  ·rw[hfree] at e; cases e
  ·rw[hfree] at hc; cases hc
 rcases hx with hk | hk
 ·refine wpAny_storeName_local hk hn (fun h' hn' hs=>?_) hcls
  obtain⟨oL,_,_,hoL,_⟩:=id hn;refine h _ ⟨I.ok,I.os,I.bare,⟨fun b o e n hb hx=>?_,fun b o e n hb hx=>?_,I.base.free,fun b o e hx=>?_,I.base.tups,I.base.frzs,I.base.tbls⟩,⟨_,hn',fun j y v' e1 e2 e3=>?_⟩,fun y c e=>?_,I.free,I.freeC,fun p hp=>?_,tracked ⟨oL,hoL,I.free⟩ hs,by simpa using I.len⟩ ⟨_,hs,.inl rfl⟩
  ·exact (hs.2 b (zAm (zAq (zAh e) I.ok.above))).trans (I.base.keep b o e n hb hx)
  ·obtain⟨sl,e1⟩:=I.base.slot b o e n hb hx
   exact⟨sl,(hs.2 b (zAm (zAq (zAh e) I.ok.above))).trans e1⟩
  ·obtain⟨o',e1⟩:=I.base.there b o e hx
   exact⟨o',(hs.2 b (zAm (zAq (zAh e) I.ok.above))).trans e1⟩
  ·by_cases hj:j=i
   ·subst hj
    rw[hi] at e1; cases e1;rw[List.getElem?_set_self hiσ] at e2;cases e2;exact⟨u,r,.inl ⟨hk,by simp⟩⟩
   ·rw[List.getElem?_set_ne (Ne.symm hj)] at e2
    obtain⟨u',r',q⟩:=hl j y v' e1 e2 e3;refine⟨u',r',?_⟩;rcases q with ⟨k,e⟩ | ⟨k,c,e,z⟩
    ·refine .inl ⟨k,?_⟩
     have:y≠x:=fun e=>hj (Wt hN e1 (e▸hi));simp [this,e]
    ·exact .inr ⟨k,c,e,z.sameBut hs (cne y c e)⟩
  ·obtain⟨w',z⟩:=I.cell y c e
   exact⟨w',z.sameBut hs (cne y c e)⟩
  ·obtain⟨e,n,ne,nf,d⟩:=I.pin p hp
   exact⟨(hs.2 p.1 ne).trans e,n,ne,nf,d⟩
 ·have hfn:X.fn x=true:=by
   rcases hf with z | z
   ·exact z
   ·rw[z] at hk; cases hk
  obtain⟨c,hc⟩:=I.ok.has x (.inl hk);obtain⟨w',z⟩:=I.cell x c hc;refine wpAny_storeName_cell I.ok.kind hk hc z (fun h' hc' hs=>?_);obtain⟨oc,hoc,hocd⟩:=id z;refine h { s with heap:=h' } ⟨I.ok,I.os,I.bare,⟨fun b o e n hb hx=>?_,fun b o e n hb hx=>?_,I.base.free,fun b o e hx=>?_,I.base.tups,I.base.frzs,I.base.tbls⟩,⟨m,hn.sameBut hs (Ne.symm (cne x c hc)),fun j y v' e1 e2 e3=>?_⟩,fun y c' e=>?_,I.free,I.freeC,fun p hp=>?_,tracked ⟨oc,hoc,I.freeC x c hc⟩ hs,by simpa using I.len⟩ ⟨c,hs,.inr hc⟩
  ·exact (hs.2 b (zAm (zAq (zAh e) (I.ok.cab x c hfn hc)))).trans (I.base.keep b o e n hb hx)
  ·obtain⟨sl,e1⟩:=I.base.slot b o e n hb hx
   exact⟨sl,(hs.2 b (zAm (zAq (zAh e) (I.ok.cab x c hfn hc)))).trans e1⟩
  ·obtain⟨o',e1⟩:=I.base.there b o e hx
   exact⟨o',(hs.2 b (zAm (zAq (zAh e) (I.ok.cab x c hfn hc)))).trans e1⟩
  ·by_cases hj:j=i
   ·subst hj
    rw[hi] at e1; cases e1;rw[List.getElem?_set_self hiσ] at e2;cases e2;exact⟨u,r,.inr ⟨.inl hk,c,hc,hc'⟩⟩
   ·rw[List.getElem?_set_ne (Ne.symm hj)] at e2
    obtain⟨u',r',q⟩:=hl j y v' e1 e2 e3;refine⟨u',r',?_⟩;rcases q with q | ⟨k,c',e,z'⟩
    ·exact .inl q
    ·refine .inr ⟨k,c',e,z'.sameBut hs ?_⟩
     rintro rfl;exact hj (Wt hN e1 (I.ok.inj _ _ _ e hc▸hi))
  ·by_cases hcc:c'=c
   ·subst hcc; exact⟨_,hc'⟩
   ·obtain⟨w2,z2⟩:=I.cell y c' e
    exact⟨w2,z2.sameBut hs hcc⟩
  ·obtain⟨e,n,ne,nf,d⟩:=I.pin p hp
   refine⟨(hs.2 p.1 ?_).trans e,n,ne,nf,d⟩;intro q;rw[q,hoc] at e;have q':oc=p.2:=Option.some.inj e;exact d w' (by rw[<- q']; exact hocd)
theorem Qi {M:Model} {A:Around} {E:Value->Shared->Prop} {i:Nat} {x:Str} {v:V} {u:Value} {Q:Unit->Shared->Prop} (I:Inv X pins σ H s) (hN:X.N.Nodup) (hi:X.N[i]?=some x) (hx:HI X.env.scope x) (r:RelV v u)
  (h:∀ s',Inv X pins (σ.set i (some v)) H s'->Q () s') (hf:X.fn x=true\/X.env.scope.names.lookup x=some .local:=by first | exact .inl rfl | exact .inr rfl | assumption):wpAny M A (storeName X.env x u) Q E s:=
 Tk I hN hi hx r (fun s' I' _=>h s' I') hf
theorem Inv.call' {s':Shared} {ch:List Addr} (I:Inv X pins σ H s) (ho:s'.os=s.os) (u:Un (Xj X.stack) ch H H' s.heap s'.heap) (hok:HOk X.prog X.w H' s'.heap) (hg:AllBare s'.gens)
  (hch:∀ b∈ch,(b∈X.ex\/X.s₀.heap.objs.size<=b)/\b≠X.env.locals/\(∀ x c,X.env.cells.lookup x=some c->c≠b)/\∀ p∈X.pn++pins,p.1≠b):Inv X pins σ H' s':=by
 obtain⟨h',g',d',t',o'⟩:=s';have e:o'=s.os:=ho;subst e;exact I.call (g':=g') (t':=t') (d':=d') u hok hg hch
end
abbrev XK:=Value->Option Addr->Hp->Prop
abbrev St:=List (Option V)
abbrev VK:=V->Hp->Prop
abbrev TE:=St->Hp->VK->Prop
abbrev TT:=St->Hp->(Bool->Hp->Prop)->Prop
abbrev TA:=St->Hp->(List V->Hp->Prop)->Prop
structure Jm where
 nx:St->Hp->Prop
 rt:VK
 bk:St->Hp->Prop:=fun _ _=>False
 ct:St->Hp->Prop:=fun _ _=>False
abbrev TS:=Jm->St->Hp->Prop
def EP (X:Cx) (pins:List (Addr×Obj)) (σ:St) (Q:VK) (u:Value) (s':Shared):Prop:=∃ v H',Inv X pins σ H' s'/\RelV v u/\Q v H'
def TP (X:Cx) (pins:List (Addr×Obj)) (σ:St) (Q:Bool->Hp->Prop) (b:Bool) (s':Shared):Prop:=∃ H',Inv X pins σ H' s'/\Q b H'
def AP (X:Cx) (pins:List (Addr×Obj)) (σ:St) (Q:List V->Hp->Prop) (us:List Value) (s':Shared):Prop:=∃ vs H',Inv X pins σ H' s'/\Vals vs us/\Q vs H'
def SP (X:Cx) (pins:List (Addr×Obj)) (D:Jm) (f:Flow) (s':Shared):Prop:=
 match f with
 | .next=>∃ σ' H',Inv X pins σ' H' s'/\D.nx σ' H'
 | .brk=>∃ σ' H',Inv X pins σ' H' s'/\D.bk σ' H'
 | .cont=>∃ σ' H',Inv X pins σ' H' s'/\D.ct σ' H'
 | .ret u=>∃ v σ' H',Inv X pins σ' H' s'/\RelV v u/\D.rt v H'
def PE (X:Cx) (e:Expr) (t:TE):Prop:=
 ∀ (pins:List (Addr×Obj)) (s:Shared) (σ:St) (H:Hp) (Q:VK),Inv X pins σ H s->t σ H Q->wpAny (model X.prog X.w) X.A (eval e X.env) (EP X pins σ Q) X.xe s
def PT (X:Cx) (e:Expr) (t:TT):Prop:=
 ∀ (pins:List (Addr×Obj)) (s:Shared) (σ:St) (H:Hp) (Q:Bool->Hp->Prop),Inv X pins σ H s->t σ H Q->wpAny (model X.prog X.w) X.A (isTrue e X.env (eval e X.env)) (TP X pins σ Q) X.xe s
def PW (X:Cx) (e:Expr) (t:TT):Prop:=
 ∀ (whole:Sem Value) (pins:List (Addr×Obj)) (s:Shared) (σ:St) (H:Hp) (Q:Bool->Hp->Prop),Inv X pins σ H s->t σ H Q->wpAny (model X.prog X.w) X.A (isTrue e X.env whole) (TP X pins σ Q) X.xe s
theorem PW.pt {X:Cx} {e:Expr} {t:TT} (h:PW X e t):PT X e t:=h _
def PA (X:Cx) (es:List Expr) (t:TA):Prop:=
 ∀ (pos:Pos) (pins:List (Addr×Obj)) (s:Shared) (σ:St) (H:Hp) (Q:List V->Hp->Prop),Inv X pins σ H s->t σ H Q->wpAny (model X.prog X.w) X.A (spliced (backTo pos (starEach es X.env))) (AP X pins σ Q) X.xe s
def PS (X:Cx) (st:Stmt) (t:TS):Prop:=
 ∀ (pins:List (Addr×Obj)) (s:Shared) (σ:St) (H:Hp) (D:Jm),Inv X pins σ H s->t D σ H->wpAny (model X.prog X.w) X.A (exec st X.env) (SP X pins D) X.xe s
def PSs (X:Cx) (st:List Stmt) (t:TS):Prop:=
 ∀ (pins:List (Addr×Obj)) (s:Shared) (σ:St) (H:Hp) (D:Jm),Inv X pins σ H s->t D σ H->wpAny (model X.prog X.w) X.A (execs st X.env) (SP X pins D) X.xe s
theorem Ca {α:Type} {t:Sem α} {Q Q':α->Shared->Prop} {M:Model} {A:Around} {E:Value->Shared->Prop} {s:Shared} (h:wpAny M A t Q E s) (hQ:∀ a s,Q a s->Q' a s):wpAny M A t Q' E s:=wpAny_mono h hQ fun _ _ x=>x
section
variable {X:Cx}
theorem JX {a b:Expr} {ta tb:TE} (ha:PE X a ta) (hb:PE X b tb) {pins:List (Addr×Obj)} {s:Shared} {σ:St} {H:Hp} {R:V->V->Hp->Prop} (I:Inv X pins σ H s) (h:ta σ H fun x H1=>tb σ H1 fun y H2=>R x y H2)
  {α:Type} {Q:α->Shared->Prop} {f:Value->Value->Sem α}
  (hf:∀ v u s2 x y H2,Inv X pins σ H2 s2->RelV x v->RelV y u->R x y H2->wpAny (model X.prog X.w) X.A (f v u) Q X.xe s2) :
  wpAny (model X.prog X.w) X.A (eval a X.env) (fun v s₁ => wpAny (model X.prog X.w) X.A (eval b X.env) (fun u s₂ => wpAny (model X.prog X.w) X.A (f v u) Q X.xe s₂) X.xe s₁) X.xe s:=by
 refine Ca (ha pins s σ H _ I h) fun v s1 ⟨x,H1,I1,r1,q1⟩=>?_;refine Ca (hb pins s1 σ H1 _ I1 q1) fun u s2 ⟨y,H2,I2,r2,q2⟩=>?_;exact hf v u s2 x y H2 I2 r1 r2 q2
def Kz (i:Nat):TE:=fun σ H Q=>∃ v,σ[i]?=some (some v)/\Q v H
def tC (v:V):TE:=fun _ H Q=>Q v H
theorem EY {i:Nat} {x:Str} {pos:Pos} (hN:X.N[i]?=some x) (hv:ID X.env.scope x) (hd:(x==("__debug__" : Str))=false:=by decide) (hcd:(x==("__classdict__" : Str))=false:=by decide):PE X (.Name x pos) (Kz i):=by
 intro pins s σ H Q I h;obtain⟨v,e,h⟩:=h;obtain⟨m,hn,hl⟩:=I.loc;obtain⟨u,r,l⟩:=hl i x v hN e hv;have fin:EP X pins σ Q u s:=⟨v,H,I,r,h⟩;rcases l with ⟨hk,hm⟩ | ⟨hk,c,hc,hcell⟩
 ·exact wpAny_Name (wpAny_loadName_local I.ok.kind hk hn hm fin) hd
 ·rcases hk with hk | hk
  ·exact wpAny_Name (wpAny_loadName_cell I.ok.kind hk hc hcell fin) hd
  ·exact wpAny_Name (wpAny_loadName_free I.ok.kind hk hc hcell fin hcd) hd
theorem Ao {i j pos}:PE X (.Constant (.int i) j pos) (tC (.int i)):=fun _ _ _ H _ I h=>wpAny_Constant_int ⟨.int i,H,I.tok _,⟨_,rfl⟩,h⟩
theorem Dr {b j pos}:PE X (.Constant (.bool b) j pos) (tC (.bl b)):=fun _ _ _ H _ I h=>Constant_bool ⟨.bl b,H,I,rfl,h⟩
theorem Gb {j pos}:PE X (.Constant .none j pos) (tC .non):=fun _ _ _ H _ I h=>Constant_none ⟨.non,H,I,rfl,h⟩
theorem Dc {x j pos}:PE X (.Constant (.str x) j pos) (tC (.str x)):=fun _ _ _ H _ I h=>Calls.Constant_str ⟨.str x,H,I.tok _,⟨_,rfl⟩,h⟩
def Gl (X:Cx) (x:Str):Prop:=X.env.kindOf x=some .globalImplicit
theorem Gh {E:Value->Shared->Prop} {pins:List (Addr×Obj)} {s:Shared} {σ:St} {H:Hp} {x:Str} {u:Value} {pos:Pos} {Q:Value->Shared->Prop} (I:Inv X pins σ H s) (hg:Gl X x) (hm:X.mg x=some u) (h:Q u s)
  (hd:(x==("__debug__" : Str))=false:=by decide):wpAny (model X.prog X.w) X.A (eval (.Name x pos) X.env) Q E s:=
 Calls.Name_function_global I.ok.kind hg (Calls.loadGlobal_global (by rw[I.ok.glob]; exact I.mod.glob.keeps I.bk) hm h) hd
theorem Dm {E:Value->Shared->Prop} {pins:List (Addr×Obj)} {s:Shared} {σ:St} {H:Hp} {x:Str} {u:Value} {pos:Pos} {Q:Value->Shared->Prop} (I:Inv X pins σ H s) (hg:Gl X x) (hm:X.mg x=none) (hv:zCw x=some u) (h:Q u s)
  (hn:x ≠ "__name__" := by decide) (hd:(x==("__debug__" : Str))=false:=by decide):wpAny (model X.prog X.w) X.A (eval (.Name x pos) X.env) Q E s:=by
 obtain⟨mb,h1,h2⟩:=I.mod.blt;exact Calls.Name_function_global I.ok.kind hg (Calls.loadGlobal_builtin (by rw[I.ok.glob]; exact I.mod.glob.keeps I.bk) hm (by rw[I.ok.blt]; exact h1.keeps I.bk) ((h2 x hn).trans hv) h) hd
theorem Vb {x:Str} {v:V} {u:Value} {pos:Pos} (hg:Gl X x) (hm:X.mg x=some u) (r:RelV v u) (hd:(x==("__debug__" : Str))=false:=by decide):PE X (.Name x pos) (tC v):=
 fun _ _ _ H _ I h=>Gh I hg hm ⟨v,H,I,r,h⟩ hd
theorem BP {x:Str} {v:V} {u:Value} {pos:Pos} (hg:Gl X x) (hm:X.mg x=none) (hv:zCw x=some u) (r:RelV v u) (hn:x ≠ "__name__" := by decide) (hd:(x==("__debug__" : Str))=false:=by decide):PE X (.Name x pos) (tC v):=
 fun _ _ _ H _ I h=>Dm I hg hm hv ⟨v,H,I,r,h⟩ hn hd
variable {a b:Expr} {ta tb:TE} {pos:Pos}
def PC (X:Cx) (op:CmpOp) (a b:Expr) (t:TE):Prop:=
 ∀ (pins:List (Addr×Obj)) (s:Shared) (σ:St) (H:Hp) (Q:VK),Inv X pins σ H s->t σ H Q ->
  wpAny (model X.prog X.w) X.A (eval a X.env) (fun v s₁ => wpAny (model X.prog X.w) X.A (eval b X.env) (fun u s₂ => wpAny (model X.prog X.w) X.A (compareOp op v u) (EP X pins σ Q) X.xe s₂) X.xe s₁) X.xe s
def tB (t:TE):TT:=fun σ H Q=>t σ H fun x H1=>∃ c,x = .bl c/\Q c H1
theorem FA {op:CmpOp} {t:TE} (h:PC X op a b t) (h1:behindInMarks op b=false:=by first | exact nobehind _ (by decide) (by decide) | rfl):PT X (.Compare a [op] [b] pos) (tB t):=by
 intro pins s σ H Q I hw;refine wpAny_isTrue_Compare1 (Ca (h pins s σ H _ I hw) fun v s1 h1=>Ca h1 fun u s2 h2=>Ca h2 fun c s3 ⟨x,H1,I1,r1,q1⟩=>?_) h1;obtain⟨d,rfl,q⟩:=q1;cases r1;exact wpAny_truthy_bool ⟨H1,I1,q⟩
theorem Dw {e:Expr} {t:TE} (h:PE X e t) (he:∀ whole,isTrue e X.env whole=(do let v <- whole; standAt e.pos; holding [v] (truthy v)):=by intro _; rfl):PT X e (tB t):=by
 intro pins s σ H Q I hw;refine isTrue_plain (Ca (h pins s σ H _ I hw) fun v s1 ⟨x,H1,I1,r1,q1⟩=>?_) (he _);obtain⟨d,rfl,q⟩:=q1;cases r1;exact wpAny_truthy_bool ⟨H1,I1,q⟩
variable {tA tB':TT} {rest:List Expr}
def II (t u:TT):TT:=fun σ H Q=>t σ H fun c H1=>if c=true then u σ H1 Q else Q false H1
def JQ (t u:TT):TT:=fun σ H Q=>t σ H fun c H1=>if c=true then Q true H1 else u σ H1 Q
def HW (t:TT):TT:=fun σ H Q=>t σ H fun c H1=>Q (!c) H1
theorem Om (ha:PT X a tA):PW X (.BoolOp .And [a] pos) tA:=by
 intro wh pins s σ H Q I h;refine isTrue_and (Ca (ha pins s σ H Q I h) fun c s1 e=>?_);cases c with
 | true=>exact isTrue_and_nil e
 | false=>exact e
theorem Mc (ha:PT X a tA):PW X (.BoolOp .Or [a] pos) tA:=by
 intro wh pins s σ H Q I h;refine isTrue_or (Ca (ha pins s σ H Q I h) fun c s1 e=>?_);cases c with
 | false=>exact isTrue_or_nil e
 | true=>exact e
theorem Uz (ha:PT X a tA) (hb:PW X (.BoolOp .And (b::rest) pos) tB'):PW X (.BoolOp .And (a::b::rest) pos) (II tA tB'):=by
 intro wh pins s σ H Q I h;refine isTrue_and (Ca (ha pins s σ H _ I h) fun c s1 ⟨H1,I1,q1⟩=>?_);cases c with
 | true=>exact hb wh pins s1 σ H1 Q I1 q1
 | false=>exact⟨H1,I1,q1⟩
theorem Qa (ha:PT X a tA) (hb:PW X (.BoolOp .Or (b::rest) pos) tB'):PW X (.BoolOp .Or (a::b::rest) pos) (JQ tA tB'):=by
 intro wh pins s σ H Q I h;refine isTrue_or (Ca (ha pins s σ H _ I h) fun c s1 ⟨H1,I1,q1⟩=>?_);cases c with
 | true=>exact⟨H1,I1,q1⟩
 | false=>exact hb wh pins s1 σ H1 Q I1 q1
theorem Fv (ha:PT X a tA):PT X (.UnaryOp .Not a pos) (HW tA):=by
 intro pins s σ H Q I h;exact isTrue_not (ha pins s σ H (fun c H1=>Q (!c) H1) I h)
def FQ (ta tb:TE):TE:=fun σ H Q=>ta σ H fun x H1=>∃ c,x = .bl c/\if c=true then tb σ H1 Q else Q (.bl false) H1
def FR (ta:TE):TE:=fun σ H Q=>ta σ H fun x H1=>∃ c,x = .bl c/\Q (.bl (!c)) H1
theorem Qv {op} {t:TE} (h:PE X a t):PE X (.BoolOp op [a] pos) t:=fun pins s σ H Q I hw=>BoolOp_one (h pins s σ H Q I hw)
theorem Qt (ha:PE X a ta) (hb:PE X (.BoolOp .And (b::rest) pos) tb):PE X (.BoolOp .And (a::b::rest) pos) (FQ ta tb):=by
 intro pins s σ H Q I h;refine BoolOp_and (Ca (ha pins s σ H _ I h) fun v s1 ⟨x,H1,I1,r1,q1⟩=>?_);obtain⟨c,rfl,q1⟩:=q1;cases r1;refine wpAny_truthy_bool ?_;cases c with
 | true=>exact hb pins s1 σ H1 Q I1 q1
 | false=>exact⟨.bl false,H1,I1,rfl,q1⟩
theorem DE (ha:PE X a ta):PE X (.UnaryOp .Not a pos) (FR ta):=by
 intro pins s σ H Q I h;refine UnaryOp_ (Ca (ha pins s σ H _ I h) fun v s1 ⟨x,H1,I1,r1,q1⟩=>?_);obtain⟨c,rfl,q1⟩:=q1;cases r1;exact not_of (wpAny_truthy_bool ⟨.bl (!c),H1,I1,rfl,q1⟩)
def JG (t:TT) (ta tb:TE):TE:=fun σ H Q=>t σ H fun c H1=>if c=true then ta σ H1 Q else tb σ H1 Q
theorem Et {c:Expr} (hc:PT X c tA) (ha:PE X a ta) (hb:PE X b tb):PE X (.IfExp c a b pos) (JG tA ta tb):=by
 intro pins s σ H Q I h;refine wpAny_IfExp (Ca (hc pins s σ H _ I h) fun d s1 ⟨H1,I1,q1⟩=>?_);cases d with
 | true=>exact ha pins s1 σ H1 Q I1 q1
 | false=>exact hb pins s1 σ H1 Q I1 q1
end
def SqL (K:zAa) (H:Hp) (a:Addr) (xs:List V):Prop:=
 Rd H a (.lst xs) \/
  ∃ (o:Obj) (its:Array Value) (n:Nat),K.lookup a=some o/\o.cls = .type "list"/\o.dict=none/\o.data = .seq its n/\its.size<=sizeLine/\Vals xs its.toList
def SqT (K:zAa) (H:Hp) (a:Addr) (xs:List V):Prop:=
 Rd H a (.tup xs) \/
  ∃ (o:Obj) (its:Array Value) (n:Nat),K.lookup a=some o/\o.cls = .type "tuple"/\o.data = .seq its n/\its.size<=sizeLine/\Vals xs its.toList
def HK:Value->Option V
 | .none=>some .non
 | .bool b=>some (.bl b)
 | .int i _=>some (.int i)
 | .str x _=>some (.str x)
 | .bytes b _=>some (.byt b)
 | .float b _=>some (.flt b)
 | .ref a=>some (.ref a)
 | .type n=>some (.ty n)
 | _=>none
theorem RelV.abs {x:V} {u:Value} (r:RelV x u):HK u=some x:=by
 cases x with
 | non=>cases r; rfl
 | bl _=>cases r; rfl
 | int _=>obtain⟨t,rfl⟩:=r; rfl
 | str _=>obtain⟨t,rfl⟩:=r; rfl
 | byt _=>obtain⟨t,rfl⟩:=r; rfl
 | flt _=>obtain⟨t,rfl⟩:=r; rfl
 | ref _=>cases r; rfl
 | ty _=>cases r; rfl
theorem RelV.inj {x y:V} {u:Value} (r:RelV x u) (q:RelV y u):x=y:=Option.some.inj (r.abs.symm.trans q.abs)
theorem Vals.inj:∀ {xs ys:List V} {us:List Value},Vals xs us->Vals ys us->xs=ys
 | _,_,_,.nil,.nil=>rfl
 | _,_,_,.cons r t,.cons r' t'=>by rw[r.inj r',Vals.inj t t']
section
variable {X:Cx} {pins:List (Addr×Obj)} {σ:St} {H:Hp} {s:Shared} {a:Addr} {xs ys:List V}
theorem SqL.of {K:zAa} (h:H a=some (.lst xs)):SqL K H a xs:=.inl (.inl h)
theorem SqT.of {K:zAa} (h:H a=some (.tup xs)):SqT K H a xs:=.inl (.inl h)
theorem Inv.list (I:Inv X pins σ H s) (h:SqL X.K H a xs):∃ its:List Value,Vals xs its/\PlainL s.heap a its.toArray/\xs.length<=sizeLine:=by
 rcases h with h | ⟨o,its,n,hk,hc,hd,hs,hz,r⟩
 ·obtain⟨z,its,n,r,e⟩:=h.ok I.hok
  exact⟨its,r,⟨_,n,e,rfl,rfl,rfl⟩,z⟩
 ·refine⟨its.toList,r,⟨o,n,I.kIn a o hk,hc,hd,by simpa using hs⟩,?_⟩
  have e:=r.length;simp only [zAw] at e
  lia
theorem Inv.tuple (I:Inv X pins σ H s) (h:SqT X.K H a xs):∃ its:List Value,Vals xs its/\IsTup s.heap a its.toArray/\xs.length<=sizeLine:=by
 rcases h with h | ⟨o,its,n,hk,hc,hs,hz,r⟩
 ·obtain⟨z,its,r,p⟩:=h.ok I.hok
  exact⟨its,r,p,z⟩
 ·refine⟨its.toList,r,⟨o,I.kIn a o hk,hc,n,by simpa using hs⟩,?_⟩
  have e:=r.length;simp only [zAw] at e
  lia
theorem Inv.list_inj (I:Inv X pins σ H s) (h:SqL X.K H a xs) (h':SqL X.K H a ys):xs=ys:=by
 obtain⟨its,r,⟨o,n,e,_,_,d⟩,_⟩:=I.list h;obtain⟨its',r',⟨o',n',e',_,_,d'⟩,_⟩:=I.list h';rw[e] at e'; cases e';rw[d] at d';injection d' with d1 _;have:its=its':=by simpa using congrArg Array.toList d1
 subst this;exact r.inj r'
end
abbrev Cx.wish (X:Cx) (E:Value->Shared->Prop):Cx:={ X with xe:=E }
abbrev Cx.nox (X:Cx):Cx:=X.wish fun _ _=>False
theorem Cx.Ok.wish {X:Cx} (ok:X.Ok) (E:Value->Shared->Prop):(X.wish E).Ok:=
 ⟨ok.mod,ok.kind,ok.glob,ok.blt,ok.above,ok.inj,ok.has,ok.cab,ok.hd,ok.frames,ok.stk,ok.exf,ok.bs,ok.bsz,ok.noex,ok.exfs,ok.funs,ok.frf⟩
theorem Cx.Ok.unwish {X:Cx} {E:Value->Shared->Prop} (ok:(X.wish E).Ok):X.Ok:=
 ⟨ok.mod,ok.kind,ok.glob,ok.blt,ok.above,ok.inj,ok.has,ok.cab,ok.hd,ok.frames,ok.stk,ok.exf,ok.bs,ok.bsz,ok.noex,ok.exfs,ok.funs,ok.frf⟩
section
variable {X:Cx} {pins:List (Addr×Obj)} {σ:St} {H:Hp} {s:Shared} {E:Value->Shared->Prop}
theorem Inv.wish (I:Inv X pins σ H s) (E:Value->Shared->Prop):Inv (X.wish E) pins σ H s:=⟨I.ok.wish E,I.os,I.bare,I.base,I.loc,I.cell,I.free,I.freeC,I.pin,I.hok,I.len⟩
theorem Inv.unwish (I:Inv (X.wish E) pins σ H s):Inv X pins σ H s:=⟨I.ok.unwish,I.os,I.bare,I.base,I.loc,I.cell,I.free,I.freeC,I.pin,I.hok,I.len⟩
theorem SP.unwish {D:Jm} {f:Flow} {s':Shared} (h:SP (X.wish E) pins D f s'):SP X pins D f s':=by
 cases f with
 | next=>obtain⟨σ',H',I,q⟩:=h; exact⟨σ',H',I.unwish,q⟩
 | brk=>obtain⟨σ',H',I,q⟩:=h; exact⟨σ',H',I.unwish,q⟩
 | cont=>obtain⟨σ',H',I,q⟩:=h; exact⟨σ',H',I.unwish,q⟩
 | ret u=>obtain⟨v,σ',H',I,r,q⟩:=h; exact⟨v,σ',H',I.unwish,r,q⟩
theorem PSs.nox {st:List Stmt} {t:TS} (h:PSs X.nox st t):PSs X st t:=fun pins s σ H D I hw=>
 wpAny_mono (h pins s σ H D (I.wish _) hw) (fun _ _ q=>q.unwish) fun _ _ z=>False.elim z
end
section
variable {X:Cx} {st:Stmt} {rest:List Stmt} {t u:TS} {e:Expr} {te:TE} {pos:Pos}
def HD:TS:=fun D σ H=>D.nx σ H
def G7 (t u:TS):TS:=fun D σ H=>t { D with nx:=u D } σ H
theorem Bm:PSs X [] HD:=fun _ _ σ H _ I h=>wpAny_execs_nil ⟨σ,H,I,h⟩
theorem Aj (h1:PS X st t) (h2:PSs X rest u):PSs X (st::rest) (G7 t u):=by
 intro pins s σ H D I h;refine wpAny_execs_cons (Ca (h1 pins s σ H { D with nx:=u D } I h) fun f s1 q=>?_);cases f with
 | next=>
  obtain⟨σ',H',I',q⟩:=q;exact h2 pins s1 σ' H' D I' q
 | ret v=>exact q
 | brk=>exact q
 | cont=>exact q
theorem An (h1:PS X st t):PSs X [st] t:=by
 intro pins s σ H D I h;refine wpAny_execs_cons (Ca (h1 pins s σ H D I h) fun f s1 q=>?_);cases f with
 | next=>exact wpAny_execs_nil q
 | ret v=>exact q
 | brk=>exact q
 | cont=>exact q
theorem Inv.quiet {pins:List (Addr×Obj)} {σ:St} {H:Hp} {s:Shared} (I:Inv X pins σ H s):interactive X.env=false:=by simp [interactive,I.ok.kind]
def GG (te:TE):TS:=fun D σ H=>te σ H fun _ H1=>D.nx σ H1
theorem Ck (he:PE X e te) (hs:swapsWith e none pos.line X.env=pure false:=by rfl):PS X (.Expr e pos) (GG te):=by
 intro pins s σ H D I h;exact wpAny_Expr_any (Ca (he pins s σ H _ I h) fun v s1 ⟨x,H1,I1,r1,q1⟩=>⟨σ,H1,I1,q1⟩) I.quiet hs
def CU (te:TE):TS:=fun D σ H=>te σ H D.rt
theorem Az (he:PE X e te):PS X (.Return (some e) pos) (CU te):=by
 intro pins s σ H D I h;exact wpAny_Return_some (Ca (he pins s σ H _ I h) fun v s1 ⟨x,H1,I1,r1,q1⟩=>⟨x,σ,H1,I1,r1,q1⟩)
def IL (c:TT) (t u:TS):TS:=fun D σ H=>c σ H fun b H1=>if b=true then t D σ H1 else u D σ H1
theorem Cd {c:Expr} {a b:List Stmt} {tc:TT} (hc:PT X c tc) (ha:PSs X a t) (hb:PSs X b u):PS X (.If c a b pos) (IL tc t u):=by
 intro pins s σ H D I h;refine wpAny_If (Ca (hc pins s σ H _ I h) fun d s1 ⟨H1,I1,q1⟩=>?_);cases d with
 | true=>exact ha pins s1 σ H1 D I1 q1
 | false=>exact hb pins s1 σ H1 D I1 q1
def X5:TS:=fun _ _ _=>False
theorem Gy:PS X st X5:=fun _ _ _ _ _ _ h=>h.elim
theorem Mx {sts:List Stmt}:PSs X sts X5:=fun _ _ _ _ _ _ h=>h.elim
end
abbrev TG:=V->St->Hp->(St->Hp->Prop)->Prop
abbrev CL:=List V->St->Hp->(St->Hp->Prop)->Prop
def PG (X:Cx) (target:Expr) (t:TG):Prop:=
 ∀ (pins:List (Addr×Obj)) (s:Shared) (σ:St) (H:Hp) (v:V) (u:Value) (Q:St->Hp->Prop),Inv X pins σ H s->RelV v u->t v σ H Q ->
  wpAny (model X.prog X.w) X.A (assign target X.env u) (fun _ s'=>∃ σ' H',Inv X pins σ' H' s'/\Q σ' H') X.xe s
def FY (X:Cx) (ts:List Expr) (t:CL):Prop:=
 ∀ (pins:List (Addr×Obj)) (s:Shared) (σ:St) (H:Hp) (vs:List V) (us:List Value) (Q:St->Hp->Prop),Inv X pins σ H s->Vals vs us->t vs σ H Q ->
  wpAny (model X.prog X.w) X.A (assignInOrder ((assignEach ts X.env).map (·.2)) us) (fun _ s'=>∃ σ' H',Inv X pins σ' H' s'/\Q σ' H') X.xe s
abbrev DP:=V->V->V->Hp->(Hp->Prop)->Prop
def FX (X:Cx) (t:DP):Prop:=
 ∀ (pins:List (Addr×Obj)) (s:Shared) (σ:St) (H:Hp) (o i v:V) (ov iv u:Value) (Q:Hp->Prop),Inv X pins σ H s->RelV o ov->RelV i iv->RelV v u->t o i v H Q ->
  wpAny (model X.prog X.w) X.A (setItem ov iv u) (fun _ s'=>∃ H',Inv X pins σ H' s'/\Q H') X.xe s
section
variable {X:Cx} {pos:Pos}
def Df (i:Nat):TG:=fun v σ H Q=>Q (σ.set i (some v)) H
theorem Ax {i:Nat} {x:Str} (hN:X.N.Nodup) (hi:X.N[i]?=some x) (hx:HI X.env.scope x) (hf:X.fn x=true\/X.env.scope.names.lookup x=some .local:=by first | exact .inl rfl | exact .inr rfl | assumption):PG X (.Name x pos) (Df i):=by
 intro pins s σ H v u Q I r h;exact wpAny_assign_Name (Qi I hN hi hx r (fun s' I'=>⟨_,H,I',h⟩) hf)
def T1:CL:=fun vs σ H Q=>vs=[]/\Q σ H
def Kv (t:TG) (u:CL):CL:=fun vs σ H Q=>∃ v r,vs=v::r/\t v σ H fun σ' H'=>u r σ' H' Q
theorem Ds:FY X [] T1:=by
 intro pins s σ H vs us Q I r h;obtain⟨e,h⟩:=h;subst e;cases r;exact assignInOrder_nil ⟨σ,H,I,h⟩
theorem Bn {e:Expr} {es:List Expr} {t:TG} {u:CL} (h1:PG X e t) (h2:FY X es u)
  (hs:(assignEach (e::es) X.env).map (·.2)=assign e X.env::(assignEach es X.env).map (·.2):=by rfl):FY X (e::es) (Kv t u):=by
 intro pins s σ H vs us Q I r h;obtain⟨v,vr,e1,h⟩:=h;subst e1;cases r with
 | cons r rr=>
  rw[hs];refine assignInOrder_cons (Ca (h1 pins s σ H _ _ _ I r h) fun _ s1 ⟨σ1,H1,I1,q1⟩=>?_);exact h2 pins s1 σ1 H1 _ _ Q I1 rr q1
def L5 (K:zAa) (n:Nat) (t:CL):TG:=fun v σ H Q=>∃ a xs,v = .ref a/\SqT K H a xs/\xs.length=n/\t xs σ H Q
theorem Ig {es:List Expr} {k:Nat} {t:CL} {n:Nat} (hc:X.calm=true) (h:FY X es t)
  (hn:(assignEach es X.env).length=n:=by rfl) (hst:(assignEach es X.env).findIdx? (·.1)=none:=by rfl):PG X (.Tuple es k pos) (L5 X.K n t):=by
 intro pins s σ H v u Q I r hw;obtain⟨a,xs,e1,hq,hl,hw⟩:=hw;subst e1;cases r;obtain⟨its,rv,ht,hz⟩:=I.tuple hq;refine assign_Tuple_tuple (I.ok.hd hc) ht (by simp [hn,<- hl,rv.length]) hst fun h' hx=>?_;have I1:Inv X pins σ H { s with heap:=h' }:=I.kept (t':=s.toks) fun b o e=>hx b o (zAm (zAh e)) e;exact h pins _ σ H xs _ Q I1 (by simpa using rv) hw
def IW (to ti:TE) (t:DP):TG:=fun v σ H Q=>to σ H fun o H1=>ti σ H1 fun i H2=>t o i v H2 fun H3=>Q σ H3
theorem EH {o i:Expr} {to ti:TE} {t:DP} (ho:PE X o to) (hi:PE X i ti) (hs:FX X t)
  (ha:∀ v,assign (.Subscript o i pos) X.env v=(do
   let ov <- holding [v] (eval o X.env)
   let iv <- holding [v,ov] (eval i X.env)
   standAt pos
   holding [v,ov,iv] (setItem ov iv v)
   release [v,ov,iv] []):=by intro _; rfl):PG X (.Subscript o i pos) (IW to ti t):=by
 intro pins s σ H v u Q I r h;rw[ha];refine zCt (wpAny_holding (Ca (ho pins s σ H _ I h) fun ov s1 ⟨x,H1,I1,r1,q1⟩=>?_));refine zCt (wpAny_holding (Ca (hi pins s1 σ H1 _ I1 q1) fun iv s2 ⟨y,H2,I2,r2,q2⟩=>?_));refine zCt (wpAny_standAt (zCt (wpAny_holding (Ca (hs pins s2 σ H2 x y v ov iv u _ I2 r1 r2 r q2) fun _ s3 ⟨H3,I3,q3⟩=>?_))));exact wpAny_release ⟨σ,H3,I3,q3⟩
def W4 (te:TE) (g:TG):TS:=fun D σ H=>te σ H fun x H1=>g x σ H1 D.nx
theorem DX {tg e:Expr} {te:TE} {g:TG} (he:PE X e te) (hg:PG X tg g) (hs:swapsWithSole [tg] e pos.line X.env=pure false:=by rfl) (hw:swappedStores [tg] e X.env=pure none:=by rfl)
  (h1:(assignEach [tg] X.env).map (·.2)=[assign tg X.env]:=by rfl):PS X (.Assign [tg] e pos) (W4 te g):=by
 intro pins s σ H D I h;refine wpAny_Assign_stores (Ca (he pins s σ H _ I h) fun v s1 ⟨x,H1,I1,r1,q1⟩=>?_) hs hw;rw[h1];exact Ca (hg pins s1 σ H1 x v _ I1 r1 q1) fun _ s2 q=>q
theorem Ba {i:Nat} {x:Str} {e:Expr} {te:TE} {pos':Pos} (hN:X.N.Nodup) (hi:X.N[i]?=some x) (hx:HI X.env.scope x) (he:PE X e te) (hs:swapsWith e (some (.Name x pos')) pos.line X.env=pure false:=by rfl) (hf:X.fn x=true\/X.env.scope.names.lookup x=some .local:=by first | exact .inl rfl | exact .inr rfl | assumption) :
  PS X (.Assign [.Name x pos'] e pos) (W4 te (Df i)):=by
 intro pins s σ H D I h;refine wpAny_Assign_Name (Ca (he pins s σ H _ I h) fun v s1 ⟨y,H1,I1,r1,q1⟩=>?_) hs;exact Qi I1 hN hi hx r1 (fun s2 I2=>⟨_,H1,I2,q1⟩) hf
def DL (c:TT) (tb:TS):TS:=fun D σ H=>∃ W:Nat->St->Hp->Prop,(∃ m,W m σ H)/\∀ m σ H,W m σ H ->
 c σ H fun b H1=>if b=true then ∃ N:St->Hp->Prop,(∀ σ' H',N σ' H'->∃ m',m'<m/\W m' σ' H')/\tb { D with nx:=N,ct:=N,bk:=D.nx } σ H1 else D.nx σ H1
theorem Yi {c:Expr} {body:List Stmt} {tc:TT} {tb:TS} (hp:PassesOwn (model X.prog X.w) X.A X.env X.xe) (hc:PT X c tc) (hb:PSs X body tb):PS X (.While c body [] pos) (DL tc tb):=by
 intro pins s σ H D I h;obtain⟨W,⟨m0,w0⟩,turn⟩:=h;refine wpAny_While (codeAny_whileLoop (fun n s'=>∃ σ' H',Inv X pins σ' H' s'/\W n σ' H') ?_ m0 ⟨σ,H,I,w0⟩);rintro n s1 ⟨σ1,H1,I1,w1⟩;refine wpAny_passesOwn hp (Ca (hc pins s1 σ1 H1 _ I1 (turn n σ1 H1 w1)) fun b s2 ⟨H2,I2,q2⟩=>?_);cases b with
 | true=>
  obtain⟨N,hN,q2⟩:=q2;rw[if_pos rfl];refine wpAny_passesOwn hp (Ca (hb pins s2 σ1 H2 _ I2 q2) fun f s3 q3=>?_);cases f with
  | next=>
   obtain⟨σ3,H3,I3,n3⟩:=q3;obtain⟨m',hm,w3⟩:=hN σ3 H3 n3;exact⟨m',hm,σ3,H3,I3,w3⟩
  | cont=>
   obtain⟨σ3,H3,I3,n3⟩:=q3;obtain⟨m',hm,w3⟩:=hN σ3 H3 n3;exact⟨m',hm,σ3,H3,I3,w3⟩
  | brk=>exact q3
  | ret v=>exact q3
 | false=>
  rw[if_neg zAr];exact wpAny_execs_nil ⟨σ1,H2,I2,q2⟩
end
structure It where
 go:Nat->Hp->Prop
 yld:Nat->Hp->V->Hp->Prop
 stop:Nat->Hp->Prop
def Iy (X:Cx) (pins:List (Addr×Obj)) (H:Hp) (b:Addr):Prop:=
 H b=none/\b≠X.env.locals/\b∉X.fs/\(b∈X.ex\/X.s₀.heap.objs.size<=b)/\(∀ x c,X.env.cells.lookup x=some c->c≠b)/\∀ p∈X.pn++pins,p.1≠b
theorem Inv.fpOk {X:Cx} {pins:List (Addr×Obj)} {σ:St} {H H':Hp} {s:Shared} {b:Addr} (I:Inv X pins σ H s) (hb:s.heap.objs.size<=b) (hn:H' b=none):Iy X pins H' b:=by
 refine⟨hn,zAF (zAq I.lt hb),I.nofs hb,.inr (zAA I.sz hb),fun x c e z=>?_,fun p hp z=>?_⟩
 ·obtain⟨v,q⟩:=I.cell x c e
  exact absurd (zAq q.lt (by rw[z]; exact hb)) (zBk _)
 ·exact absurd (zAq (zAh (I.pin p hp).1) (by rw[z]; exact hb)) (zBk _)
structure Wa (P:Program) (w:World) (K:zAa) (tg:Expr) (J:It) (fp:List Addr) (it:Addr) (tn:Nat->Heap->Prop):Prop where
 mem:it∈fp
 obj:∀ i h,tn i h->∀ b∈fp,∃ o,h.get? b=some o/\∀ v,o.data ≠ .cell v
 keep:∀ i h h',tn i h->(∀ b∈fp,∀ o,h.get? b=some o->h'.get? b=some o)->tn i h'
 item:∀ (X:Cx),X.prog=P->X.w=w->X.K=K->X.calm=true->∀ (i:Nat) (pins:List (Addr×Obj)) (s:Shared) (σ:St) (H:Hp) (E:Value->Shared->Prop),Inv X pins σ H s->(∀ b∈fp,Iy X pins H b)->tn i s.heap->J.go i H ->
  wpAny (model P w) X.A (pyNext (.ref it)) (fun r s1=>∃ u,r=some u /\
   wpAny (model P w) X.A (letOwnedTupleGo tg (.ref it) u) (fun _ s2=>∃ x H',Inv X pins σ H' s2/\RelV x u/\J.yld i H x H'/\tn (i+1) s2.heap/\∀ b∈fp,H' b=none) E s1) E s
 done:∀ (X:Cx),X.prog=P->X.w=w->X.K=K->X.calm=true->∀ (i:Nat) (pins:List (Addr×Obj)) (s:Shared) (σ:St) (H:Hp) (E:Value->Shared->Prop),Inv X pins σ H s->(∀ b∈fp,Iy X pins H b)->tn i s.heap->J.stop i H ->
  wpAny (model P w) X.A (pyNext (.ref it)) (fun r s1=>r=none/\Inv X pins σ H s1) E s
 self:∀ (A:Around) (i:Nat) (s:Shared) (Q:Value->Shared->Prop) (E:Value->Shared->Prop),tn i s.heap->Q (.ref it) s->wpAny (model P w) A (pyIter (.ref it)) Q E s
abbrev TI:=St->Hp->(It->Hp->Prop)->Prop
def JE (X:Cx) (pins:List (Addr×Obj)) (σ:St) (tg:Expr) (R:It->Hp->Prop) (itv:Value) (s2:Shared):Prop:=
 ∃ (it:Addr) (fp:List Addr) (tn:Nat->Heap->Prop) (J:It) (H':Hp),itv = .ref it/\Inv X pins σ H' s2/\Wa X.prog X.w X.K tg J fp it tn/\tn 0 s2.heap/\(∀ b∈fp,Iy X pins H' b)/\R J H'
def PI (X:Cx) (tg iter:Expr) (wi:TI):Prop:=
 ∀ (pins:List (Addr×Obj)) (s:Shared) (σ:St) (H:Hp) (R:It->Hp->Prop),Inv X pins σ H s->wi σ H R ->
  wpAny (model X.prog X.w) X.A (eval iter X.env) (fun v s1=>wpAny (model X.prog X.w) X.A (pyIter v) (JE X pins σ tg R) X.xe s1) X.xe s
theorem F5 {M:Model} {A:Around} {E:Value->Shared->Prop} {s:Shared} {tg:Expr} {it:Addr} {u:Value} {o:Obj} {n:String} {vs:Array Value} {Q:Unit->Shared->Prop} (ho:s.heap.get? it=some o) (hc:o.cls = .type n) (hd:o.data = .fields vs)
  (hn:["enumerate", "zip", "dict_itemiterator", "dict_reverseitemiterator", "odict_iterator", "itertools.zip_longest", "itertools.pairwise"].contains n=false) (hQ:Q () s):wpAny M A (letOwnedTupleGo tg (.ref it) u) Q E s:=by
 unfold letOwnedTupleGo;cases tg <;> first
  | exact zCu hQ
  | (cases u <;> first
    | exact zCu hQ
    | (refine zCt (wpAny_load ho ?_)
       rw[hc,hd];show wpAny M A (if (["enumerate", "zip", "dict_itemiterator", "dict_reverseitemiterator", "odict_iterator", "itertools.zip_longest", "itertools.pairwise"].contains n&&vs[0]?==some (rawInt _))=true then _ else _) Q E s;rw[if_neg (by intro h; rw[hn,Bool.false_and] at h; cases h)];exact zCu hQ))
def DV (K:zAa) (a:Addr):It:=
 ⟨fun i H=>∃ xs x,SqL K H a xs/\xs[i]?=some x,fun i H x H'=>H'=H/\∀ xs,SqL K H a xs->xs[i]?=some x,fun i H=>∃ xs,SqL K H a xs/\xs.length<=i⟩
def EU (lo:Int) (n:Nat):It:=⟨fun i _=>i<n,fun i H x H'=>H'=H/\x = .int (lo+i),fun i _=>n<=i⟩
theorem N4 {P:Program} {w:World} {K:zAa} {tg:Expr} (a it:Addr):Wa P w K tg (DV K a) [it] it (fun i h=>h.IsListIter it a i) where
 mem:=by simp
 obj:=fun i h st b hb=>by
  have e:b=it:=by simpa using hb
  subst e;obtain⟨o,e,c,d⟩:=st;exact⟨o,e,fun v z=>by rw[d] at z; cases z⟩
 keep:=fun i h h' st k=>st.at fun o e=>k it (by simp) o e
 item:=by
  intro X hP hw hK hc i pins s σ H E I hf st hg;subst hP hw hK;obtain⟨xs,x,hq,hx⟩:=hg;obtain⟨its,rv,p,hz⟩:=I.list hq;obtain⟨u,hu,ru⟩:=rv.get hx;obtain⟨f0,f1,f2,f3,f4,f5⟩:=hf it (by simp);refine wpAny_pyNext_list_item st p.isList (x:=u) (by simpa using hu) fun h' st' sb=>?_;have I1:Inv X pins σ H { s with heap:=h' }:=I.turned (t':=s.toks) (fun b o hb e=>(sb.2 b hb).trans e) f0 f1 f3 f4 f5;obtain⟨o,e,c,d⟩:=id st';exact⟨u,rfl,F5 (s:={ s with heap:=h' }) e c d (by decide) ⟨x,H,I1,ru,⟨rfl,fun ys hy=>by rw[I.list_inj hy hq]; exact hx⟩,st',fun b hb=>(hf b hb).1⟩⟩
 done:=by
  intro X hP hw hK hc i pins s σ H E I hf st hg;subst hP hw hK;obtain⟨xs,hq,hx⟩:=hg;obtain⟨its,rv,p,hz⟩:=I.list hq;obtain⟨f0,f1,f2,f3,f4,f5⟩:=hf it (by simp);have hl:=rv.length;exact wpAny_pyNext_list_end (I.ok.hd hc) st p.isList (by simp; lia) fun h' eb=>⟨rfl,I.turned (t':=s.toks) (fun b o hb e=>eb b o hb e) f0 f1 f3 f4 f5⟩
 self:=fun _ _ _ _ _ st h=>wpAny_pyIter_listiter st h
theorem A6 {P:Program} {w:World} {K:zAa} {tg:Expr} (it:Addr) (lo:Int) (n:Nat):Wa P w K tg (EU lo n) [it] it (fun i h=>IsRangeIter h it (lo+(i:Nat)*1) ((n:Int)-(i:Nat)) 1) where
 mem:=by simp
 obj:=fun i h st b hb=>by
  have e:b=it:=by simpa using hb
  subst e;exact⟨_,st,fun v z=>by
   have z':Data.fields _=Data.cell v:=z;cases z'⟩
 keep:=fun i h h' st k=>k it (by simp) _ st
 item:=by
  intro X hP hw hK hc i pins s σ H E I hf st hg;subst hP hw hK;obtain⟨f0,f1,f2,f3,f4,f5⟩:=hf it (by simp);have W:=Walks.range (prog:=X.prog) (w:=X.w) (I.ok.hd hc) it lo 1 n;refine W.item i s _ _ hg st fun v h' tk hv st' kk=>?_;obtain⟨t,rfl⟩:=hv;have I1:Inv X pins σ H { s with heap:=h',toks:=tk }:=I.turned (fun b o hb e=>kk b o (by simpa using hb) e) f0 f1 f3 f4 f5;refine⟨_,rfl,F5 (s:={ s with heap:=h',toks:=tk }) (n := "range_iterator") st' rfl rfl (by decide) ⟨.int (lo+i),H,I1,⟨t,?_⟩,⟨rfl,rfl⟩,st',fun b hb=>(hf b hb).1⟩⟩;rw[Int.mul_one]
 done:=by
  intro X hP hw hK hc i pins s σ H E I hf st hg;subst hP hw hK;obtain⟨f0,f1,f2,f3,f4,f5⟩:=hf it (by simp);exact wpAny_pyNext_range_end (I.ok.hd hc) st (by have:n<=i:=hg; lia) fun h' eb=>⟨rfl,I.turned (t':=s.toks) (fun b o hb e=>eb b o hb e) f0 f1 f3 f4 f5⟩
 self:=fun _ _ _ _ _ st h=>wpAny_pyIter_rangeiter st h
section
variable {X:Cx} {tg:Expr}
def GK (K:zAa) (tl:TE):TI:=fun σ H R=>tl σ H fun x H1=>∃ a,x = .ref a/\(∃ xs,SqL K H1 a xs)/\R (DV K a) H1
theorem Bg {l:Expr} {tl:TE} (hl:PE X l tl):PI X tg l (GK X.K tl):=by
 intro pins s σ H R I h;refine Ca (hl pins s σ H _ I h) fun v s1 ⟨x,H1,I1,r1,q1⟩=>?_;obtain⟨a,e,⟨xs,hq⟩,q⟩:=q1;subst e;cases r1;obtain⟨its,rv,p,hz⟩:=I1.list hq;refine wpAny_pyIter_list p.isList ?_;refine⟨s1.heap.objs.size,[s1.heap.objs.size],_,_,H1,rfl,I1.kept (t':=s1.toks) fun b o e=>zAc _ e,N4 a _,⟨_,zAt _ rfl,rfl,rfl⟩,fun b hb=>?_,q⟩;have e:b=s1.heap.objs.size:=by simpa using hb
 subst e;exact I1.fpOk (zAf _) (I1.hok.fresh (zAf _))
theorem Y8 {pins:List (Addr×Obj)} {σ:St} {H:Hp} {s:Shared} {R:It->Hp->Prop} {E:Value->Shared->Prop} {lo hi:Int} {t u v:Tok} {tk:Nat} (I:Inv X pins σ H s) (h1 : -(2^62)<=lo) (h2:lo<2^62) (h3 : -(2^62)<=hi) (h4:hi<2^62)
  (q:R (EU lo (hi-lo).toNat) H):wpAny (model X.prog X.w) X.A (pyIter (.ref s.heap.objs.size)) (JE X pins σ tg R) E { s with heap:=s.heap.push { cls:=.type "range",data:=.fields #[.int lo t,.int hi u,.int 1 v] },toks:=tk }:=by
 refine wpAny_pyIter_range (IsRange.new ..) (small_one h1 h2 h3 h4) ?_;have I1:Inv X pins σ H { s with heap:=s.heap.push { cls:=.type "range",data:=.fields #[.int lo t,.int hi u,.int 1 v] },toks:=tk }:=I.kept fun b o e=>zAc _ e;refine⟨(s.heap.push { cls:=.type "range",data:=.fields #[.int lo t,.int hi u,.int 1 v] }).objs.size,[(s.heap.push { cls:=.type "range",data:=.fields #[.int lo t,.int hi u,.int 1 v] }).objs.size],_,_,H,rfl,
  I1.kept (t':=tk) fun b o e=>zAc _ e,A6 _ lo (hi-lo).toNat,?_,fun b hb=>?_,q⟩
 ·have e1:lo+((0:Nat):Int)*1=lo:=by simp
  have e2:(((hi-lo).toNat:Nat):Int)-((0:Nat):Int)=Builtin.Range.rangeSize lo hi 1:=by rw[rangeSize_one]; split <;> lia
  show IsRangeIter _ _ (lo+((0:Nat):Int)*1) ((((hi-lo).toNat:Nat):Int)-((0:Nat):Int)) 1;rw[e1,e2];exact zAt _ rfl
 ·have e:b=(s.heap.push { cls:=.type "range",data:=.fields #[.int lo t,.int hi u,.int 1 v] }).objs.size:=by simpa using hb
  subst e;exact I1.fpOk (zAf _) (I1.hok.fresh (zAf _))
def FS (ta:TA):TI:=fun σ H R=>ta σ H fun vs H1=>∃ j:Int,vs=[.int j]/\-(2^62)<=j/\j<2^62/\R (EU 0 j.toNat) H1
theorem Dl {a:Expr} {ta:TA} {p pos:Pos} (hg:Gl X "range") (hm:X.mg "range" = none) (ha:PA X [a] ta) (hs:starEach [a] X.env=[(false,eval a X.env)]:=by rfl):PI X tg (.Call (.Name "range" p) [a] [] pos) (FS ta):=by
 intro pins s σ H R I h;refine Call_ (Dm I hg hm boot_range (PyProof.Rows.callWith_type1 (Ca (ha pos pins s σ H _ I h) fun us s1 ⟨vs,H1,I1,r1,q1⟩=>?_) hs rfl));obtain⟨j,e,q1,q2,q⟩:=q1;subst e;cases r1 with
 | cons r rr=>
  cases rr
  obtain⟨t,rfl⟩:=r;exact call_range_1 (Y8 I1 (by lia) (by lia) q1 q2 (by simpa using q))
def IV (wi:TI) (g:TG) (tb:TS):TS:=fun D σ H=>wi σ H fun J H1=>∃ W:Nat->Nat->St->Hp->Prop,(∃ m,W 0 m σ H1)/\∀ i m σ H,W i m σ H ->
 (J.stop i H/\D.nx σ H)\/(J.go i H/\∃ N:St->Hp->Prop,(∀ σ' H',N σ' H'->∃ m',m'<m/\W (i+1) m' σ' H')/\∀ x H',J.yld i H x H'->g x σ H' fun σ2 H2=>tb { D with nx:=N,ct:=N,bk:=D.nx } σ2 H2)
def Qc (fp:List Addr) (h:Heap):List (Addr×Obj):=fp.filterMap fun b=>(h.get? b).map fun o=>(b,o)
theorem Hl {fp:List Addr} {h:Heap} {b:Addr} {o:Obj} (hb:b∈fp) (e:h.get? b=some o):(b,o)∈Qc fp h:=List.mem_filterMap.mpr ⟨b,hb,by rw[e]; rfl⟩
theorem N6 {fp:List Addr} {h:Heap} {p:Addr×Obj} (hp:p∈Qc fp h):p.1∈fp/\h.get? p.1=some p.2:=by
 obtain⟨b,hb,e⟩:=List.mem_filterMap.mp hp;cases q:h.get? b with
 | none=>rw[q] at e; cases e
 | some o=>
  rw[q] at e;have e':(b,o)=p:=Option.some.inj e;subst e';exact⟨hb,q⟩
theorem Inv.pinned {pins:List (Addr×Obj)} {σ:St} {H:Hp} {s:Shared} {fp:List Addr} (I:Inv X pins σ H s) (hf:∀ b∈fp,Iy X pins H b) (ho:∀ b∈fp,∃ o,s.heap.get? b=some o/\∀ v,o.data ≠ .cell v):Inv X (pins++Qc fp s.heap) σ H s:=
 I.pins_of fun p hp=>(zAy.mp hp).elim (fun z=>I.pin p (zAC _ z)) fun z=>by
  obtain⟨hb,e⟩:=N6 z;obtain⟨f0,f1,f2,_⟩:=hf p.1 hb;obtain⟨o,e',d⟩:=ho p.1 hb;rw[e] at e'; cases e';exact⟨e,f0,f1,f2,d⟩
theorem Inv.unpinned {pins pl:List (Addr×Obj)} {σ:St} {H:Hp} {s:Shared} (I:Inv X (pins++pl) σ H s):Inv X pins σ H s:=I.pins_of fun p hp=>I.pin p (zAC _ (zBl _ hp))
theorem Cg {iter:Expr} {body:List Stmt} {wi:TI} {g:TG} {tb:TS} {pos:Pos} (hp:PassesOwn (model X.prog X.w) X.A X.env X.xe) (hc:X.calm=true) (hi:PI X tg iter wi) (hg:PG X tg g) (hb:PSs X body tb)
  (hs:∀ x,foldedSetIterable iter X.env x=pure x:=by intro _; rfl):PS X (.For tg iter body [] pos) (IV wi g tb):=by
 intro pins s σ H D I h;refine wpAny_For (Ca (hi pins s σ H _ I h) fun v s1 h1=>Ca h1 fun itv s2 h2=>?_) hs;obtain⟨it,fp,tn,J,H2,e,I2,T,st2,f2,W,⟨m0,w0⟩,turn⟩:=h2;subst e;have stat:∀ {H':Hp},(∀ b∈fp,H' b=none)->∀ b∈fp,Iy X pins H' b:=fun hn b hb=>⟨hn b hb,(f2 b hb).2⟩;refine codeAny_forLoop_any (fun n s'=>∃ i σ' H',Inv X pins σ' H' s'/\tn i s'.heap/\(∀ b∈fp,H' b=none)/\W i n σ' H') ?_ m0 ⟨0,σ,H2,I2,st2,fun b hb=>(f2 b hb).1,w0⟩;rintro n s3 ⟨i,σ3,H3,I3,st3,fr3,w3⟩;rcases turn i n σ3 H3 w3 with ⟨stop,qn⟩ | ⟨go,N,hN,step⟩
 ·refine wpAny_passesOwn hp (Ca (T.done X rfl rfl rfl hc i pins s3 σ3 H3 X.xe I3 (stat fr3) st3 stop) fun r s4 ⟨hr,I4⟩=>?_)
  subst hr;exact wpAny_execs_nil ⟨σ3,H3,I4,qn⟩
 ·refine wpAny_passesOwn hp (Ca (T.item X rfl rfl rfl hc i pins s3 σ3 H3 X.xe I3 (stat fr3) st3 go) fun r s4 ⟨u,hr,h4⟩=>?_)
  subst hr;refine wpAny_passesOwn hp (Ca h4 fun _ s5 ⟨x,H5,I5,r5,y5,st5,fr5⟩=>?_);have I5':=I5.pinned (stat fr5) (T.obj _ _ st5);refine wpAny_passesOwn hp (Ca (hg _ s5 σ3 H5 x u _ I5' r5 (step x H5 y5)) fun _ s6 ⟨σ6,H6,I6,q6⟩=>?_);refine wpAny_passesOwn hp (Ca (hb _ s6 σ6 H6 _ I6 q6) fun f s7 q7=>?_);have again:∀ {σ7:St} {H7:Hp},Inv X (pins++Qc fp s5.heap) σ7 H7 s7->N σ7 H7->∃ m,m<n/\∃ i σ' H',Inv X pins σ' H' s7/\tn i s7.heap/\(∀ b∈fp,H' b=none)/\W i m σ' H':=fun {σ7 H7} I7 n7=>by
   obtain⟨m',hm,w7⟩:=hN σ7 H7 n7;refine⟨m',hm,i+1,σ7,H7,I7.unpinned,T.keep _ _ _ st5 fun b hb o e=>(I7.pin (b,o) (zAC _ (zAC _ (Hl hb e)))).1,fun b hb=>?_,w7⟩;obtain⟨o,e,d⟩:=T.obj _ _ st5 b hb;exact (I7.pin (b,o) (zAC _ (zAC _ (Hl hb e)))).2.1
  cases f with
  | next=>obtain⟨σ7,H7,I7,n7⟩:=q7; exact again I7 n7
  | cont=>obtain⟨σ7,H7,I7,n7⟩:=q7; exact again I7 n7
  | brk=>obtain⟨σ7,H7,I7,q7⟩:=q7; exact⟨σ7,H7,I7.unpinned,q7⟩
  | ret v=>obtain⟨x7,σ7,H7,I7,r7,q7⟩:=q7; exact⟨x7,σ7,H7,I7.unpinned,r7,q7⟩
end
theorem Cf {K:zAa} {a:Addr} {xs:List V} {g:TG} {tb:TS} {D:Jm} {σ:St} {H:Hp} (Pv:Nat->St->Hp->Prop) (h0:Pv 0 σ H) (hl:∀ i σ H,i<=xs.length->Pv i σ H->SqL K H a xs)
  (hs:∀ i x σ H,xs[i]?=some x->Pv i σ H->g x σ H fun σ2 H2=>tb { D with nx:=Pv (i+1),ct:=Pv (i+1),bk:=D.nx } σ2 H2) (hd:∀ σ H,Pv xs.length σ H->D.nx σ H) :
  ∃ W:Nat->Nat->St->Hp->Prop,(∃ m,W 0 m σ H)/\∀ i m σ H,W i m σ H ->
   ((DV K a).stop i H/\D.nx σ H)\/((DV K a).go i H/\∃ N:St->Hp->Prop,(∀ σ' H',N σ' H'->∃ m',m'<m/\W (i+1) m' σ' H')/\∀ x H',(DV K a).yld i H x H'->g x σ H' fun σ2 H2=>tb { D with nx:=N,ct:=N,bk:=D.nx } σ2 H2):=by
 refine⟨fun i m σ H=>m=xs.length-i/\i<=xs.length/\Pv i σ H,⟨xs.length,by simp,zAk _,h0⟩,?_⟩;rintro i m σ H ⟨rfl,hi,p⟩;have q:=hl i σ H hi p;by_cases hlt:i<xs.length
 ·refine .inr ⟨⟨xs,xs[i],q,by simp [hlt]⟩,Pv (i+1),fun σ' H' p'=>⟨xs.length-(i+1),by lia,rfl,hlt,p'⟩,fun x H' y=>?_⟩
  obtain⟨e,y⟩:=y;subst e;exact hs i x σ _ (y xs q) p
 ·have e:i=xs.length:=by lia
  subst e;exact .inl ⟨⟨xs,q,zAf _⟩,hd σ H p⟩
theorem Td {lo:Int} {n:Nat} {g:TG} {tb:TS} {D:Jm} {σ:St} {H:Hp} (Pv:Nat->St->Hp->Prop) (h0:Pv 0 σ H)
  (hs:∀ i σ H,i<n->Pv i σ H->g (.int (lo+i)) σ H fun σ2 H2=>tb { D with nx:=Pv (i+1),ct:=Pv (i+1),bk:=D.nx } σ2 H2) (hd:∀ σ H,Pv n σ H->D.nx σ H) :
  ∃ W:Nat->Nat->St->Hp->Prop,(∃ m,W 0 m σ H)/\∀ i m σ H,W i m σ H ->
   ((EU lo n).stop i H/\D.nx σ H)\/((EU lo n).go i H/\∃ N:St->Hp->Prop,(∀ σ' H',N σ' H'->∃ m',m'<m/\W (i+1) m' σ' H')/\∀ x H',(EU lo n).yld i H x H'->g x σ H' fun σ2 H2=>tb { D with nx:=N,ct:=N,bk:=D.nx } σ2 H2):=by
 refine⟨fun i m σ H=>m=n-i/\i<=n/\Pv i σ H,⟨n,by simp,zAk _,h0⟩,?_⟩;rintro i m σ H ⟨rfl,hi,p⟩;by_cases hlt:i<n
 ·refine .inr ⟨hlt,Pv (i+1),fun σ' H' p'=>⟨n-(i+1),by lia,rfl,hlt,p'⟩,fun x H' y=>?_⟩
  obtain⟨e,y⟩:=y;subst e y;exact hs i σ _ hlt p
 ·have e:i=n:=by lia
  subst e;exact .inl ⟨zAf _,hd σ H p⟩
abbrev R2:=V->V->Hp->VK->Prop
def Jq (X:Cx) (f:Value->Value->Sem Value) (r:R2):Prop:=
 ∀ (pins:List (Addr×Obj)) (s:Shared) (σ:St) (H:Hp) (x y:V) (v u:Value) (Q:VK),Inv X pins σ H s->RelV x v->RelV y u->r x y H Q ->
  wpAny (model X.prog X.w) X.A (f v u) (EP X pins σ Q) X.xe s
def IG (X:Cx) (f:Value->Sem Value) (r:V->Hp->VK->Prop):Prop:=
 ∀ (pins:List (Addr×Obj)) (s:Shared) (σ:St) (H:Hp) (x:V) (v:Value) (Q:VK),Inv X pins σ H s->RelV x v->r x H Q ->
  wpAny (model X.prog X.w) X.A (f v) (EP X pins σ Q) X.xe s
def Fk (X:Cx) (f:Value) (r:List V->Hp->VK->Prop):Prop:=
 ∀ (pins:List (Addr×Obj)) (s:Shared) (σ:St) (H:Hp) (xs:List V) (us:List Value) (Q:VK),Inv X pins σ H s->Vals xs us->r xs H Q ->
  wpAny (model X.prog X.w) X.A (call f us) (EP X pins σ Q) X.xe s
def IY (X:Cx) (r:V->Hp->(Bool->Hp->Prop)->Prop):Prop:=
 ∀ (pins:List (Addr×Obj)) (s:Shared) (σ:St) (H:Hp) (x:V) (v:Value) (Q:Bool->Hp->Prop),Inv X pins σ H s->RelV x v->r x H Q ->
  wpAny (model X.prog X.w) X.A (truthy v) (TP X pins σ Q) X.xe s
def Z1 (r:R2) (ta tb:TE):TE:=fun σ H Q=>ta σ H fun x H1=>tb σ H1 fun y H2=>r x y H2 Q
def JS (r:V->Hp->VK->Prop) (ta:TE):TE:=fun σ H Q=>ta σ H fun x H1=>r x H1 Q
def rI (C:Int->Int->Prop) (g:Int->Int->V):R2:=fun x y H Q=>∃ i j,x = .int i/\y = .int j/\C i j/\Q (g i j) H
def CN (g:Int->Int->V):R2:=fun x y H Q=>∃ i j,x = .int i/\y = .int j/\Q (g i j) H
def rU (g:Int->V):V->Hp->VK->Prop:=fun x H Q=>∃ i,x = .int i/\Q (g i) H
section
variable {X:Cx} {a b c:Expr} {ta tb tc:TE} {pos:Pos}
theorem DJ (ha:PE X a ta) (hb:PE X b tb) {pins:List (Addr×Obj)} {s:Shared} {σ:St} {H:Hp} {R:V->V->Hp->Prop} (I:Inv X pins σ H s)
  (h:ta σ H fun x H1=>tb σ H1 fun y H2=>R x y H2) {Q:Value->Shared->Prop} {f:Value->Value->Sem Value}
  (hf:∀ v u s2 x y H2,Inv X pins σ H2 s2->RelV x v->RelV y u->R x y H2->wpAny (model X.prog X.w) X.A (f v u) Q X.xe s2) :
  wpAny (model X.prog X.w) X.A (eval a X.env) (fun v s₁ => wpAny (model X.prog X.w) X.A (eval b X.env) (fun u s₂ => wpAny (model X.prog X.w) X.A (f v u) Q X.xe s₂) X.xe s₁) X.xe s:=by
 refine Ca (ha pins s σ H _ I h) fun v s1 ⟨x,H1,I1,r1,q1⟩=>?_;refine Ca (hb pins s1 σ H1 _ I1 q1) fun u s2 ⟨y,H2,I2,r2,q2⟩=>?_;exact hf v u s2 x y H2 I2 r1 r2 q2
theorem Bc {op:Operator} {r:R2} (ho:Jq X (binaryOp op) r) (ha:PE X a ta) (hb:PE X b tb):PE X (.BinOp a op b pos) (Z1 r ta tb):=by
 intro pins s σ H Q I h;exact wpAny_BinOp (DJ ha hb I h fun v u s2 x y H2 I2 rx ry q=>ho pins s2 σ H2 x y v u Q I2 rx ry q)
theorem Xp {op:UnaryOp} {r:V->Hp->VK->Prop} (ho:IG X (unaryOp op) r) (ha:PE X a ta):PE X (.UnaryOp op a pos) (JS r ta):=by
 intro pins s σ H Q I h;exact UnaryOp_ (Ca (ha pins s σ H _ I h) fun v s1 ⟨x,H1,I1,r1,q1⟩=>ho pins s1 σ H1 x v Q I1 r1 q1)
theorem HG {f:Value->Value->Sem Value} {C:Int->Int->Prop} {g:Int->Int->Int}
  (rule:∀ (i j:Int) (t u:Tok) (s:Shared) (Q:Value->Shared->Prop) (E:Value->Shared->Prop),C i j->Q (.int (g i j) s.toks) { s with toks:=s.toks+1 }->wpAny (model X.prog X.w) X.A (f (.int i t) (.int j u)) Q E s) :
  Jq X f (rI C fun i j=>.int (g i j)):=by
 intro pins s σ H x y v u Q I rx ry h;obtain⟨i,j,rfl,rfl,hc,q⟩:=h;obtain⟨t,rfl⟩:=rx;obtain⟨t',rfl⟩:=ry;exact rule i j t t' s _ _ hc ⟨.int (g i j),H,I.tok _,⟨_,rfl⟩,q⟩
theorem GU {f:Value->Value->Sem Value} {g:Int->Int->Int}
  (rule:∀ (i j:Int) (t u:Tok) (s:Shared) (Q:Value->Shared->Prop) (E:Value->Shared->Prop),Q (.int (g i j) s.toks) { s with toks:=s.toks+1 }->wpAny (model X.prog X.w) X.A (f (.int i t) (.int j u)) Q E s) :
  Jq X f (CN fun i j=>.int (g i j)):=by
 intro pins s σ H x y v u Q I rx ry h;obtain⟨i,j,rfl,rfl,q⟩:=h;obtain⟨t,rfl⟩:=rx;obtain⟨t',rfl⟩:=ry;exact rule i j t t' s _ _ ⟨.int (g i j),H,I.tok _,⟨_,rfl⟩,q⟩
theorem BC {f:Value->Value->Sem Value} {g:Int->Int->Bool}
  (rule:∀ (i j:Int) (t u:Tok) (s:Shared) (Q:Value->Shared->Prop) (E:Value->Shared->Prop),Q (.bool (g i j)) s->wpAny (model X.prog X.w) X.A (f (.int i t) (.int j u)) Q E s) :
  Jq X f (CN fun i j=>.bl (g i j)):=by
 intro pins s σ H x y v u Q I rx ry h;obtain⟨i,j,rfl,rfl,q⟩:=h;obtain⟨t,rfl⟩:=rx;obtain⟨t',rfl⟩:=ry;exact rule i j t t' s _ _ ⟨.bl (g i j),H,I,rfl,q⟩
def IN (i j:Int):Prop:=0<j/\j<1073741824
def HZ (i j:Int):Prop:=0<=j/\j<=1000000/\i.natAbs<2^64
def CMul (i j:Int):Prop:=(-(2^64)<i/\i<2^64)\/(-(2^64)<j/\j<2^64)
theorem CMul.ok {i j:Int} (h:CMul i j):IntMulOk i j:=by
 rcases h with ⟨h1,h2⟩ | ⟨h1,h2⟩
 ·exact .of_left (intBits_le_64 h1 h2)
 ·exact .of_right (intBits_le_64 h1 h2)
theorem Bw:Jq X (binaryOp .Add) (CN fun i j=>.int (i+j)):=GU fun _ _ _ _ _ _ _ q=>add_int q
theorem Ic:Jq X (binaryOp .Sub) (CN fun i j=>.int (i-j)):=GU fun _ _ _ _ _ _ _ q=>sub_int q
theorem Em:Jq X (binaryOp .Mult) (rI CMul fun i j=>.int (i*j)):=HG fun _ _ _ _ _ _ _ hc q=>mul_int q hc.ok
theorem D3:Jq X (binaryOp .FloorDiv) (rI IN fun i j=>.int (i/j)):=HG fun i j _ _ _ _ _ hc q=>by
 have h1:(0:Int)<j:=hc.1;have h2:j<1073741824:=hc.2;exact floordiv_int (by lia) (by rw[Int.fdiv_eq_ediv_of_nonneg i (by lia)]; exact q) (.inl (PyProof.noPylong_small (by lia)))
theorem Gk:Jq X (binaryOp .Mod) (rI (fun _ j=>0<j) fun i j=>.int (i%j)):=HG fun i j _ _ _ _ _ hc q=>by
 have h1:(0:Int)<j:=hc;exact mod_int' (by lia) (by rw[Int.fmod_eq_emod_of_nonneg i (by lia)]; exact q)
theorem Vj:Jq X (binaryOp .Pow) (rI HZ fun i j=>.int (i^j.toNat)):=HG fun _ _ _ _ _ _ _ hc q=>pow_int_small hc.1 hc.2.1 hc.2.2 q
theorem JU {f:Value->Sem Value} {g:Int->Int}
  (rule:∀ (i:Int) (t:Tok) (s:Shared) (Q:Value->Shared->Prop) (E:Value->Shared->Prop),Q (.int (g i) s.toks) { s with toks:=s.toks+1 }->wpAny (model X.prog X.w) X.A (f (.int i t)) Q E s) :
  IG X f (rU fun i=>.int (g i)):=by
 intro pins s σ H x v Q I rx h;obtain⟨i,rfl,q⟩:=h;obtain⟨t,rfl⟩:=rx;exact rule i t s _ _ ⟨.int (g i),H,I.tok _,⟨_,rfl⟩,q⟩
theorem Pl:IG X (unaryOp .USub) (rU fun i=>.int (-i)):=JU fun _ _ _ _ _ q=>neg_int q
def HC:V->V->Bool
 | .non,.non=>true | .non,.int _=>true | .int _,.non=>true | .non,.bl _=>true | .bl _,.non=>true | .non,.str _=>true | .str _,.non=>true
 | .int _,.int _=>true | .bl _,.bl _=>true | .str _,.str _=>true | .byt _,.byt _=>true
 | .int _,.str _=>true | .str _,.int _=>true | .bl _,.str _=>true | .str _,.bl _=>true
 | _,_=>false
def JK:R2:=fun x y H Q=>HC x y=true/\Q (.bl (decide (x=y))) H
def JR:R2:=fun x y H Q=>HC x y=true/\Q (.bl (!decide (x=y))) H
theorem E8 {i j:Int}:decide (V.int i=V.int j)=(i==j):=by
 rw[Bool.eq_iff_iff];simp
theorem R4 {i j:Bool}:decide (V.bl i=V.bl j)=(i==j):=by
 rw[Bool.eq_iff_iff];simp
theorem F7 {i j:Str}:decide (V.str i=V.str j)=(i==j):=by
 rw[Bool.eq_iff_iff];simp
theorem F2 {i j:Array UInt8}:decide (V.byt i=V.byt j)=(i.toList==j.toList):=by
 rw[Bool.eq_iff_iff];cases i;cases j;simp
theorem Bu {pins:List (Addr×Obj)} {σ:St} {H:Hp} {s:Shared} {Q:VK} {k k':Bool} (I:Inv X pins σ H s) (q:Q (.bl k) H) (e:k=k'):EP X pins σ Q (.bool k') s:=by
 subst e;exact⟨.bl k,H,I,rfl,q⟩
theorem Gg:Jq X (compareOp .Eq) JK:=by
 intro pins s σ H x y v u Q I rx ry h;obtain⟨hs,q⟩:=h;cases x with
 | non=>
  cases rx
  cases y with
  | non=>cases ry; exact PySem.EqNone.eq_none_none (Bu I q (by simp))
  | bl j=>cases ry; exact PySem.EqNone.eq_none_bool (Bu I q (by simp))
  | int j=>obtain⟨t',rfl⟩:=ry; exact PySem.EqNone.eq_none_int (Bu I q (by simp))
  | str j=>obtain⟨t',rfl⟩:=ry; exact PySem.EqNone.eq_none_str (Bu I q (by simp))
  | _=>exact absurd (show false=true from hs) zAr
 | bl i=>
  cases rx
  cases y with
  | non=>cases ry; exact PySem.EqNone.eq_bool_none (Bu I q (by simp))
  | bl j=>cases ry; exact eq_bool (Bu I q R4)
  | str j=>obtain⟨t',rfl⟩:=ry; exact PySem.EqMixed.eq_bool_str (Bu I q (by simp))
  | _=>exact absurd (show false=true from hs) zAr
 | int i=>
  obtain⟨t,rfl⟩:=rx;cases y with
  | non=>cases ry; exact PySem.EqNone.eq_int_none (Bu I q (by simp))
  | int j=>obtain⟨t',rfl⟩:=ry; exact eq_int (Bu I q E8)
  | str j=>obtain⟨t',rfl⟩:=ry; exact PySem.EqMixed.eq_int_str (Bu I q (by simp))
  | _=>exact absurd (show false=true from hs) zAr
 | str i=>
  obtain⟨t,rfl⟩:=rx;cases y with
  | non=>cases ry; exact PySem.EqNone.eq_str_none (Bu I q (by simp))
  | bl j=>cases ry; exact PySem.EqMixed.eq_str_bool (Bu I q (by simp))
  | int j=>obtain⟨t',rfl⟩:=ry; exact PySem.EqMixed.eq_str_int (Bu I q (by simp))
  | str j=>obtain⟨t',rfl⟩:=ry; exact eq_str (Bu I q F7)
  | _=>exact absurd (show false=true from hs) zAr
 | byt i=>
  obtain⟨t,rfl⟩:=rx;cases y with
  | byt j=>obtain⟨t',rfl⟩:=ry; exact PySem.W.eq_bytes (Bu I q F2)
  | _=>exact absurd (show false=true from hs) zAr
 | _=>cases y <;> exact absurd (show false=true from hs) zAr
theorem Sf:Jq X (compareOp .NotEq) JR:=by
 intro pins s σ H x y v u Q I rx ry h;obtain⟨hs,q⟩:=h;cases x with
 | non=>
  cases rx
  cases y with
  | non=>cases ry; exact PySem.EqNone.ne_none_none (Bu I q (by simp))
  | bl j=>cases ry; exact PySem.EqNone.ne_none_bool (Bu I q (by simp))
  | int j=>obtain⟨t',rfl⟩:=ry; exact PySem.EqNone.ne_none_int (Bu I q (by simp))
  | str j=>obtain⟨t',rfl⟩:=ry; exact PySem.EqNone.ne_none_str (Bu I q (by simp))
  | _=>exact absurd (show false=true from hs) zAr
 | bl i=>
  cases rx
  cases y with
  | non=>cases ry; exact PySem.EqNone.ne_bool_none (Bu I q (by simp))
  | bl j=>cases ry; exact ne_bool (Bu I q (congrArg not R4))
  | str j=>obtain⟨t',rfl⟩:=ry; exact PySem.EqMixed.ne_bool_str (Bu I q (by simp))
  | _=>exact absurd (show false=true from hs) zAr
 | int i=>
  obtain⟨t,rfl⟩:=rx;cases y with
  | non=>cases ry; exact PySem.EqNone.ne_int_none (Bu I q (by simp))
  | int j=>obtain⟨t',rfl⟩:=ry; exact ne_int (Bu I q (congrArg not E8))
  | str j=>obtain⟨t',rfl⟩:=ry; exact PySem.EqMixed.ne_int_str (Bu I q (by simp))
  | _=>exact absurd (show false=true from hs) zAr
 | str i=>
  obtain⟨t,rfl⟩:=rx;cases y with
  | non=>cases ry; exact PySem.EqNone.ne_str_none (Bu I q (by simp))
  | bl j=>cases ry; exact PySem.EqMixed.ne_str_bool (Bu I q (by simp))
  | int j=>obtain⟨t',rfl⟩:=ry; exact PySem.EqMixed.ne_str_int (Bu I q (by simp))
  | str j=>obtain⟨t',rfl⟩:=ry; exact ne_str (Bu I q (congrArg not F7))
  | _=>exact absurd (show false=true from hs) zAr
 | byt i=>
  obtain⟨t,rfl⟩:=rx;cases y with
  | byt j=>obtain⟨t',rfl⟩:=ry; exact PySem.W.ne_bytes (Bu I q (congrArg not F2))
  | _=>exact absurd (show false=true from hs) zAr
 | _=>cases y <;> exact absurd (show false=true from hs) zAr
theorem Hx:Jq X (compareOp .Lt) (CN fun i j=>.bl (decide (i<j))):=BC fun _ _ _ _ _ _ _ q=>lt_int q
theorem Ij:Jq X (compareOp .LtE) (CN fun i j=>.bl (decide (i<=j))):=BC fun _ _ _ _ _ _ _ q=>le_int q
theorem Ie:Jq X (compareOp .Gt) (CN fun i j=>.bl (decide (j<i))):=BC fun _ _ _ _ _ _ _ q=>gt_int q
theorem FT:Jq X (compareOp .GtE) (CN fun i j=>.bl (decide (j<=i))):=BC fun _ _ _ _ _ _ _ q=>ge_int q
theorem Qq:Jq X (compareOp .Is) (fun x y H Q=>y = .non/\Q (.bl (decide (x = .non))) H):=by
 intro pins s σ H x y v u Q I rx ry h;obtain⟨rfl,q⟩:=h;cases ry;refine is_none_gen (Bu I q ?_);cases x <;> first
  | (cases rx; rfl)
  | (obtain⟨t,rfl⟩:=rx; rfl)
theorem Z4:Jq X (compareOp .IsNot) (fun x y H Q=>y = .non/\Q (.bl (!decide (x = .non))) H):=by
 intro pins s σ H x y v u Q I rx ry h;obtain⟨rfl,q⟩:=h;cases ry;refine isnot_none_gen (Bu I q ?_);cases x <;> first
  | (cases rx; rfl)
  | (obtain⟨t,rfl⟩:=rx; rfl)
theorem Bf (b:Expr) {op:CmpOp} (h:op ≠ .In:=by decide) (h2:op ≠ .NotIn:=by decide):behindInMarks op b=false:=by
 have e1:(op==CmpOp.In)=false:=by cases op <;> first | rfl | exact absurd rfl h
 have e2:(op==CmpOp.NotIn)=false:=by cases op <;> first | rfl | exact absurd rfl h2
 cases b <;> simp [behindInMarks,e1,e2]
theorem Eh {op:CmpOp} {r:R2} (ho:Jq X (compareOp op) r) (ha:PE X a ta) (hb:PE X b tb) (hm:behindInMarks op b=false):PE X (.Compare a [op] [b] pos) (Z1 r ta tb):=by
 intro pins s σ H Q I h;exact wpAny_Compare1 (DJ ha hb I h fun v u s2 x y H2 I2 rx ry q=>ho pins s2 σ H2 x y v u Q I2 rx ry q) hm
def R5 (t:TE):TT:=fun σ H Q=>t σ H fun x H'=>∃ k,x = .bl k/\Q k H'
theorem Bd {op:CmpOp} {r:R2} (ho:Jq X (compareOp op) r) (ha:PE X a ta) (hb:PE X b tb) (hm:behindInMarks op b=false):PT X (.Compare a [op] [b] pos) (R5 (Z1 r ta tb)):=by
 intro pins s σ H Q I h;refine wpAny_isTrue_Compare1 (Ca (ha pins s σ H _ I h) fun v s1 ⟨x,H1,I1,r1,q1⟩=>Ca (hb pins s1 σ H1 _ I1 q1) fun u s2 ⟨y,H2,I2,r2,q2⟩=>
  Ca (ho pins s2 σ H2 x y v u _ I2 r1 r2 q2) fun c s3 ⟨z,H3,I3,r3,k,e,q3⟩=>?_) hm
 subst e;cases r3;exact wpAny_truthy_bool ⟨H3,I3,q3⟩
def Y9 (r r':R2) (ta tb tc:TE):TE:=fun σ H Q=>ta σ H fun x H1=>tb σ H1 fun y H2=>r x y H2 fun z H3=>∃ k,z = .bl k /\
 (if k=true then tc σ H3 fun w' H4=>r' y w' H4 Q else Q (.bl false) H3)
theorem Ox {op op':CmpOp} {r r':R2} (ho:Jq X (compareOp op) r) (ho':Jq X (compareOp op') r') (ha:PE X a ta) (hb:PE X b tb) (hc:PE X c tc)
  (hm:lastMarks [op,op'] [b,c]=false:=by with_unfolding_all rfl):PE X (.Compare a [op,op'] [b,c] pos) (Y9 r r' ta tb tc):=by
 intro pins s σ H Q I h;refine Compare_chain (Ca (ha pins s σ H _ I h) fun v s1 ⟨x,H1,I1,r1,q1⟩=>chain_link (Ca (hb pins s1 σ H1 _ I1 q1) fun u s2 ⟨y,H2,I2,r2,q2⟩=>
  Ca (ho pins s2 σ H2 x y v u _ I2 r1 r2 q2) fun d s3 ⟨z,H3,I3,r3,k,e,q3⟩=>?_)) hm
 subst e;cases r3;refine wpAny_truthy_bool ?_;cases k with
 | false=>exact ite_ff ⟨.bl false,H3,I3,rfl,q3⟩
 | true=>exact ite_tt (chain_last (Ca (hc pins s3 σ H3 _ I3 q3) fun w' s4 ⟨z',H4,I4,r4,q4⟩=>ho' pins s4 σ H4 y z' u w' Q I4 r2 r4 q4))
theorem Wz {op op':CmpOp} {r r':R2} (ho:Jq X (compareOp op) r) (ho':Jq X (compareOp op') r') (ha:PE X a ta) (hb:PE X b tb) (hc:PE X c tc)
  (hm:lastMarks [op,op'] [b,c]=false:=by with_unfolding_all rfl):PT X (.Compare a [op,op'] [b,c] pos) (R5 (Y9 r r' ta tb tc)):=by
 intro pins s σ H Q I h;refine isTrue_chain (Ca (ha pins s σ H _ I h) fun v s1 ⟨x,H1,I1,r1,q1⟩=>test_link (Ca (hb pins s1 σ H1 _ I1 q1) fun u s2 ⟨y,H2,I2,r2,q2⟩=>
  Ca (ho pins s2 σ H2 x y v u _ I2 r1 r2 q2) fun d s3 ⟨z,H3,I3,r3,k,e,q3⟩=>?_)) hm
 subst e;cases r3;refine wpAny_truthy_bool ?_;cases k with
 | false=>
  obtain⟨k',e',q'⟩:=q3;cases e';exact ite_ff ⟨H3,I3,q'⟩
 | true=>
  refine ite_tt (test_last (Ca (hc pins s3 σ H3 _ I3 q3) fun w' s4 ⟨z',H4,I4,r4,q4⟩=>Ca (ho' pins s4 σ H4 y z' u w' _ I4 r2 r4 q4) fun d' s5 ⟨z2,H5,I5,r5,k2,e2,q5⟩=>?_));subst e2;cases r5;exact wpAny_truthy_bool ⟨H5,I5,q5⟩
def EL (K:zAa) (x:V) (H:Hp) (k:Bool):Prop:=
 match x with
 | .non=>k=false
 | .bl b=>k=b
 | .int i=>k=(i != 0)
 | .str y=>y.length<=sizeLine/\k=((y.length:Int) != 0)
 | .byt y=>y.size<=sizeLine/\k=((y.size:Int) != 0)
 | .ref p=>(∃ xs,SqL K H p xs/\k = !xs.isEmpty)\/(∃ xs,SqT K H p xs/\k = !xs.isEmpty)\/∃ kvs,H p=some (.dK kvs)/\k = !kvs.isEmpty
 | _=>False
theorem Ze {κ:Type} {kvs:List (κ×V)} {vs:List (κ×Value)} (r:KV kvs vs):(!vs.isEmpty) = !kvs.isEmpty:=by
 cases r <;> rfl
theorem Pu {xs:List V} {its:List Value} (r:Vals xs its):(!its.toArray.isEmpty) = !xs.isEmpty:=by
 cases r <;> simp
theorem Jz:(sizeLine:Nat)<2^63:=by rw[zCv]; decide
theorem Y2:IY X (fun x H Q=>∃ k,EL X.K x H k/\Q k H):=by
 intro pins s σ H x v Q I rx h;obtain⟨k,e,q⟩:=h;have hl:=Jz;have hs:sizeLine=16777216:=zCv;cases x with
 | non=>
  cases rx
  have e':k=false:=e;subst e';exact truthy_none ⟨H,I,q⟩
 | bl b=>
  cases rx
  have e':k=b:=e;subst e';exact wpAny_truthy_bool ⟨H,I,q⟩
 | int i=>
  obtain⟨t,rfl⟩:=rx;have e':k=(i != 0):=e;subst e';exact PySem.P.truthy_int ⟨H,I,q⟩
 | str y=>
  obtain⟨t,rfl⟩:=rx;obtain⟨hy,e'⟩:y.length<=sizeLine/\k=((y.length:Int) != 0):=e;subst e';exact PySem.P.truthy_str (by lia) ⟨H,I.tok _,q⟩
 | byt y=>
  obtain⟨t,rfl⟩:=rx;obtain⟨hy,e'⟩:y.size<=sizeLine/\k=((y.size:Int) != 0):=e;subst e';exact PySem.W.truthy_bytes (by lia) ⟨H,I.tok _,q⟩
 | ref p=>
  cases rx
  have e':(∃ xs,SqL X.K H p xs/\k = !xs.isEmpty)\/(∃ xs,SqT X.K H p xs/\k = !xs.isEmpty)\/∃ kvs,H p=some (.dK kvs)/\k = !kvs.isEmpty:=e;rcases e' with ⟨xs,hx,e'⟩ | ⟨xs,hx,e'⟩ | ⟨kvs,hx,e'⟩
  ·subst e'
   obtain⟨its,r,pl,hz⟩:=I.list hx;have hlen:=r.length;exact wpAny_truthy_list pl.isList (by simp only [zAd]; lia) ⟨H,I.tok _,by rw[Pu r]; exact q⟩
  ·subst e'
   obtain⟨its,r,pl,hz⟩:=I.tuple hx;have hlen:=r.length;exact truthy_tuple pl (by simp only [zAd]; lia) ⟨H,I.tok _,by rw[Pu r]; exact q⟩
  ·subst e'
   obtain⟨hz,hS,vs,r,m⟩:kvs.length<=sizeLine/\(p==sysModules)=false/\∃ vs,KV kvs vs/\s.heap.DictOf (Dg X.prog X.w) p vs:=I.hok p _ hx;have hlen:kvs.length=vs.length:=Paired.length r;exact wpAny_truthy_dict hS m (by lia) ⟨H,I.tok _,by rw[Ze r]; exact q⟩
 | _=>exact (show False from e).elim
theorem GE (ha:PE X a ta) (he:∀ whole,isTrue a X.env whole=(do let v <- whole; standAt a.pos; holding [v] (truthy v))) :
  PT X a (fun σ H Q=>ta σ H fun x H'=>∃ k,EL X.K x H' k/\Q k H'):=by
 intro pins s σ H Q I h;exact isTrue_plain (Ca (ha pins s σ H _ I h) fun v s1 ⟨x,H1,I1,r1,q1⟩=>Y2 pins s1 σ H1 x v Q I1 r1 q1) (he _)
theorem A2:Jq X (binaryOp .Add) (fun x y H Q=>∃ i j,x = .str i/\y = .str j/\i.length+j.length<=sizeLine/\Q (.str (i++j)) H):=by
 intro pins s σ H x y v u Q I rx ry h;obtain⟨i,j,rfl,rfl,hz,q⟩:=h;obtain⟨t,rfl⟩:=rx;obtain⟨t',rfl⟩:=ry;exact add_str (fun t' tk=>⟨.str (i++j),H,I.tok _,⟨_,rfl⟩,q⟩) hz
theorem Ia {x:V} {us:List Value} (r:Vals [x] us):∃ u,us=[u]/\RelV x u:=by
 cases r with
 | cons r1 r2=>cases r2; exact⟨_,rfl,r1⟩
theorem F0 {x y:V} {us:List Value} (r:Vals [x,y] us):∃ u w',us=[u,w']/\RelV x u/\RelV y w':=by
 cases r with
 | cons r1 r2=>
  cases r2 with
  | cons r3 r4=>cases r4; exact⟨_,_,rfl,r1,r3⟩
theorem Lv (hc:X.calm=true):Fk X (.builtin "max") (fun xs H Q=>∃ i j,xs=[.int i,.int j]/\Q (.int (if j>i then j else i)) H):=by
 intro pins s σ H xs us Q I r h;obtain⟨i,j,rfl,q⟩:=h;obtain⟨u,w',rfl,⟨t,rfl⟩,⟨t',rfl⟩⟩:=F0 r;refine max_two_ints (I.ok.hd hc) fun h' tk k=>⟨_,H,I.kept k,?_,q⟩;by_cases hj:j>i
 ·rw[if_pos hj,if_pos hj]; exact⟨_,rfl⟩
 ·rw[if_neg hj,if_neg hj]; exact⟨_,rfl⟩
theorem Je (hc:X.calm=true):Fk X (.builtin "min") (fun xs H Q=>∃ i j,xs=[.int i,.int j]/\Q (.int (if j<i then j else i)) H):=by
 intro pins s σ H xs us Q I r h;obtain⟨i,j,rfl,q⟩:=h;obtain⟨u,w',rfl,⟨t,rfl⟩,⟨t',rfl⟩⟩:=F0 r;refine min_two_ints (I.ok.hd hc) fun h' tk k=>⟨_,H,I.kept k,?_,q⟩;by_cases hj:j<i
 ·rw[if_pos hj,if_pos hj]; exact⟨_,rfl⟩
 ·rw[if_neg hj,if_neg hj]; exact⟨_,rfl⟩
theorem Th:Fk X (.type "int") (fun xs H Q=>(∃ i,xs=[.int i]/\Q (.int i) H)\/∃ k,xs=[.bl k]/\Q (.int (if k then 1 else 0)) H):=by
 intro pins s σ H xs us Q I r h;rcases h with ⟨i,rfl,q⟩ | ⟨k,rfl,q⟩
 ·obtain⟨u,rfl,t,rfl⟩:=Ia r
  exact call_int_int ⟨.int i,H,I,⟨_,rfl⟩,q⟩
 ·obtain⟨u,rfl,r1⟩:=Ia r
  cases r1
  exact call_int_bool ⟨.int (if k then 1 else 0),H,I.tok _,⟨_,rfl⟩,q⟩
end
structure ObjM (h:Heap) (x dx C:Addr) (mA:Str->Option Value):Prop where
 obj:h.get? x=some (zAZ C dx)
 ns:h.Ns1 dx mA
 ne:dx≠x
set_option tactic.hygienic true in
theorem N2 {h:Heap} {dx:Addr} {mA:Str->Option Value} (n:h.Ns1 dx mA):∃ od,h.get? dx=some od/\∀ name,PySem.W.lookIn name od=some (mA name):=by
 obtain⟨o,es,ep,ho,hd,hk,_,hm⟩:=n;refine⟨o,ho,fun name=>?_⟩;have e:=hm name;unfold nsFind findBy at e;rw[<- Array.find?_toList] at e;unfold PySem.W.lookIn;rw[hd]
 dsimp only
 split
 ·rename_i y q
  rw[q] at e;exact congrArg some e
 ·rename_i q
  rw[q] at e;have a:es.toList.any (·.refKey)=false:=by
   rw[List.any_eq_false];intro y hy;obtain⟨z,t,hkey⟩:=hk y (Array.mem_toList_iff.mp hy);simp [DictEntry.refKey,hkey]
  have a':¬ es.toList.any (·.refKey)=true:=by rw[a]; exact zAr
  rw[if_neg a'];exact congrArg some e
theorem ObjM.look {h:Heap} {x dx C:Addr} {mA:Str->Option Value} (I:ObjM h x dx C mA):∃ od,PySem.W.InstAt h x (zAZ C dx) C (some od)/\∀ name,PySem.W.lookIn name od=some (mA name):=
 let ⟨od,ho,hl⟩:=N2 I.ns
 ⟨od,⟨I.obj,rfl,rfl,ho⟩,hl⟩
section
variable {prog:Program} {w:World} {A:Around} {E:Value->Shared->Prop} {s:Shared} {K:zAa} {x dx C f:Addr} {mA:Str->Option Value} {name:Str} {v:Value}
theorem AB {expr:Bool} {Q:Value->Shared->Prop} (X:K.In s.heap) (I:ObjM s.heap x dx C mA) (hg:zBS K C name=true) (hh:zBy K C=true)
  (ha:zAe K (.ref C) name=some none) (hv:mA name=some v) (hv':PySem.W.handedIn v=true) (h:Q v { s with toks:=s.toks+1 }) :
  wpAny (model prog w) A (getAttr (.ref x) name expr) Q E s:=by
 obtain⟨od,J,hl⟩:=I.look;exact PySem.W.get_value X J (PySem.W.plainGet_of hg).1 (PySem.W.findObj_own hh ha rfl (by rw[hl,hv])) hv' h
theorem U8 {pl:Sem Bool} {Q:Value×List Value->Shared->Prop} (X:K.In s.heap) (I:ObjM s.heap x dx C mA) (hg:zBS K C name=true)
  (hf:zAe K (.ref C) name=some (some (.ref f))) (ht:zCb K (.ref f)=true) (hv:mA name=none) (h:Q (.ref f,[.ref x]) s) :
  wpAny (model prog w) A (getMethod (.ref x) name pl) Q E s:=by
 obtain⟨od,J,hl⟩:=I.look;exact PySem.W.method_fn X J (PySem.W.plainGet_of hg).1 (PySem.W.plainGet_of hg).2 hf (beq_iff_eq.mp ht) (by show (PySem.W.lookIn name od).map (·.isSome)=some false; rw[hl,hv]; rfl) h
theorem AK {ns:List Str} {Q:Unit->Shared->Prop} (X:K.In s.heap) (I:ObjM s.heap x dx C mA)
  (hs:zAe K (.ref C) "__setattr__" = some (some (.builtin "object.__setattr__"))) (hp:PySem.W.plainOver K C=true) (ht:PySem.W.takerIn K C name=some none) (hh:zBy K C=true)
  (hw:PySem.Within mA ns) (hsz:ns.length<=sizeLine)
  (h:∀ h',ObjM h' x dx C (fun y=>if y=name then some v else mA y)->zBc dx s.heap h'->Q () { s with heap:=h',toks:=s.toks+2 }) :
  wpAny (model prog w) A (setAttr (.ref x) name v) Q E s:=by
 obtain⟨od,J,hl⟩:=I.look;refine PySem.W.set_plain X J hs (PySem.W.osa_open (s:={ s with toks:=s.toks+1 }) (r:=none) X J hp ht fun b=>?_);obtain⟨cd,hc,hd'⟩:=PySem.W.any_some hh;have hx:s.heap.get? x=some ⟨.ref C,some dx,.plain,#[]⟩:=I.obj;refine zCt (zCu (zCt (zCt (wpAny_loadPart hx (zCt (PySem.W.Looks.here (s:={ s with toks:=s.toks+1 }) (PySem.W.looks_clsIn X hc) ?_))))));rw[hd'];refine zCu (a:=some dx) (zCt (zCu (zCt ?_)));refine wpAny_nsSet1 (s:={ s with toks:=s.toks+1 }) I.ns fun h' hn2 hs2=>?_;obtain⟨oD,esD,epD,hoD,hdD,hcD⟩:=hn2.count (PySem.Within.cons name v hw);refine zCt (wpAny_lookBehind hoD (by rw[hdD]; exact pastItsLine_dict (zAA hcD (by rw[zAl]; lia))) ?_);exact zCu (h _ ⟨(hs2.2 _ (Ne.symm I.ne)).trans I.obj,hn2,I.ne⟩ hs2)
theorem W1 {R:Result->Shared->Prop} {vs:List Value} {kw:List (Str×Value)} (X:K.In s.heap) (hm:zBY K C=true)
  (hi:zAe K (.ref C) "__init__" = some (some (.ref f))) (hf:PySem.W.typeIn K (.ref f)=some (.type "function"))
  (h:codeAny (model prog w) (A.under (.builtin "type.__call__" ⟨.ref C::vs,kw⟩)) (.call (.ref f) ⟨.ref (s.heap.objs.size+1)::vs,kw⟩) (PySem.W.InitBack (s.heap.objs.size+1) R)
   { s with heap:=(s.heap.push zAP).push (zAZ C s.heap.objs.size) }) :
  codeAny (model prog w) A (.call (.ref C) ⟨vs,kw⟩) R s:=by
 obtain⟨hh,g,d,t,os⟩:=s;exact PySem.W.make_core (PySem.W.makes_of X hm) (zBT X hi) (fun self=>PySem.W.bind_fn X self hf) (.inl rfl) h
theorem O2 {R:Result->Shared->Prop} (X:K.In s.heap) (hm:zBY K C=true)
  (hi:zAe K (.ref C) "__init__" = some (some (.builtin "object.__init__")))
  (hb:∀ self,PySem.W.Looks (model prog w) s.heap (bindSpecial (.builtin "object.__init__") self) (.builtin "object.__init__",[self]))
  (h:codeAny (model prog w) (A.under (.builtin "type.__call__" ⟨[.ref C],[]⟩)) (.call (.builtin "object.__init__") ⟨[.ref (s.heap.objs.size+1)],[]⟩) (PySem.W.InitBack (s.heap.objs.size+1) R)
   { s with heap:=(s.heap.push zAP).push (zAZ C s.heap.objs.size) }) :
  codeAny (model prog w) A (.call (.ref C) ⟨[],[]⟩) R s:=by
 obtain⟨hh,g,d,t,os⟩:=s;exact PySem.W.make_core (PySem.W.makes_of X hm) (zBT X hi) hb (.inr ⟨rfl,rfl⟩) h
end
def Bi (f:Str) (v:V):List (Str×V)->List (Str×V)
 | []=>[(f,v)]
 | (g,x)::r=>if g=f then (g,v)::r else (g,x)::Bi f v r
theorem Bl (f g:Str) (v:V):∀ fs:List (Str×V),(Bi f v fs).lookup g=if g=f then some v else fs.lookup g
 | []=>by
  show zBW g [(f,v)]=_;by_cases h:g=f
  ·have hb:(g==f)=true:=beq_iff_eq.mpr h
   simp only [zBW,hb,if_pos h]
  ·have hb:(g==f)=false:=beq_eq_false_iff_ne.mpr h
   simp only [zBW,hb,if_neg h]
 | (k,x)::r=>by
  have ih:=Bl f g v r;rw[show Bi f v ((k,x)::r)=(if k=f then (k,v)::r else (k,x)::Bi f v r) from rfl];by_cases hk:k=f
  ·rw[if_pos hk]
   by_cases h:g=k
   ·have hb:(g==k)=true:=beq_iff_eq.mpr h
    simp only [zBW,hb,if_pos (h.trans hk)]
   ·have hb:(g==k)=false:=beq_eq_false_iff_ne.mpr h
    simp only [zBW,hb,if_neg (fun e:g=f=>h (e.trans hk.symm))]
  ·rw[if_neg hk]
   by_cases h:g=k
   ·have hb:(g==k)=true:=beq_iff_eq.mpr h
    simp only [zBW,hb,if_neg (fun e:g=f=>hk (h.symm.trans e))]
   ·have hb:(g==k)=false:=beq_eq_false_iff_ne.mpr h
    simp only [zBW,hb];exact ih
theorem Mj (f:Str) (v:V):∀ fs:List (Str×V),f∈(Bi f v fs).map (·.1)/\∀ g,g∈fs.map (·.1)->g∈(Bi f v fs).map (·.1)
 | []=>⟨by simp [Bi],fun g h=>by simp at h⟩
 | (k,x)::r=>by
  obtain⟨i1,i2⟩:=Mj f v r;rw[show Bi f v ((k,x)::r)=(if k=f then (k,v)::r else (k,x)::Bi f v r) from rfl];by_cases hk:k=f
  ·rw[if_pos hk]
   subst hk;exact⟨by simp,fun g h=>by simpa using h⟩
  ·rw[if_neg hk]
   refine⟨?_,fun g h=>?_⟩
   ·rw[zBa]
    exact zAs _ i1
   ·rw[zBa] at h ⊢
    rcases zAp.mp h with e | e
    ·exact zAp.mpr (.inl e)
    ·exact zAs _ (i2 g e)
theorem Nr (f:Str) (v:V):∀ fs:List (Str×V),(Bi f v fs).length<=fs.length+1
 | []=>by simp [Bi]
 | (k,x)::r=>by
  have ih:=Nr f v r;rw[show Bi f v ((k,x)::r)=(if k=f then (k,v)::r else (k,x)::Bi f v r) from rfl];by_cases hk:k=f
  ·rw[if_pos hk,zAl,zAl]; lia
  ·rw[if_neg hk,zAl,zAl]; lia
theorem RelO.some_of {v:V} {o:Option Value} (r:RelO (some v) o):∃ u,o=some u/\RelV v u:=by
 cases o with
 | none=>exact (show False from r).elim
 | some u=>exact⟨u,rfl,r⟩
theorem RelO.none_of {o:Option Value} (r:RelO none o):o=none:=by
 cases o with
 | none=>rfl
 | some u=>exact (show False from r).elim
theorem O5 {v:V} {u:Value} (r:RelV v u):PySem.W.handedIn u=true:=by
 cases v with
 | non=>cases (show u=Value.none from r); rfl
 | bl b=>cases (show u=Value.bool b from r); rfl
 | int i=>obtain⟨t,e⟩:=(show ∃ t,u=Value.int i t from r); cases e; rfl
 | str x=>obtain⟨t,e⟩:=(show ∃ t,u=Value.str x t from r); cases e; rfl
 | byt b=>obtain⟨t,e⟩:=(show ∃ t,u=Value.bytes b t from r); cases e; rfl
 | flt b=>obtain⟨t,e⟩:=(show ∃ t,u=Value.float b t from r); cases e; rfl
 | ref a=>cases (show u=Value.ref a from r); rfl
 | ty n=>cases (show u=Value.type n from r); rfl
section
variable {P:Program} {w:World} {H H':Hp} {h h':Heap} {a C dx:Addr} {fs fs':List (Str×V)}
theorem Ol (hok:HOk P w H h) (e:H a=some (.ins C dx fs)):∃ mA,ObjM h a dx C mA/\(∀ f,RelO (fs.lookup f) (mA f))/\PySem.Within mA (fs.map (·.1))/\fs.length<=1000/\H dx=some (.own a):=by
 obtain⟨d,z,ne,ob,mA,n,r,q⟩:=(show ObjOk P w H h a (.ins C dx fs) from hok a _ e);exact⟨mA,⟨ob,n,ne⟩,r,q,z,d⟩
end
structure Cls (K:zAa) (C:Addr):Prop where
 pg:zBS K C Str.empty=true
 hd:zBy K C=true
 po:PySem.W.plainOver K C=true
 sa:zAe K (.ref C) "__setattr__" = some (some (.builtin "object.__setattr__"))
theorem Cls.get {K:zAa} {C:Addr} (c:Cls K C) (f:Str):zBS K C f=true:=c.pg
def NoAttr (K:zAa) (C:Addr) (f:Str):Prop:=zAe K (.ref C) f=some none
theorem NoAttr.taker {K:zAa} {C:Addr} {f:Str} (n:NoAttr K C f):PySem.W.takerIn K C f=some none:=by
 unfold PySem.W.takerIn;rw[show zAe K (.ref C) f=some none from n];rfl
structure Gn (K:zAa) (C:Addr) (m:Str) (f:Addr):Prop where
 at_:zAe K (.ref C) m=some (some (.ref f))
 fn:zCb K (.ref f)=true
 kp:zAT K (.ref f)=true
section
variable {X:Cx} {pins:List (Addr×Obj)} {σ:St} {H:Hp} {s:Shared} {a C dx:Addr} {fs:List (Str×V)} {f:Str} {v:V} {A:Around} {E:Value->Shared->Prop}
theorem Zg {b:Bool} {Q:Value->Shared->Prop} (I:Inv X pins σ H s) (e:H a=some (.ins C dx fs)) (c:Cls X.K C) (n:NoAttr X.K C f) (l:fs.lookup f=some v)
  (h:∀ u s',Inv X pins σ H s'->RelV v u->Q u s'):wpAny (model X.prog X.w) A (getAttr (.ref a) f b) Q E s:=by
 obtain⟨mA,O,r,_,_,_⟩:=Ol I.hok e;obtain⟨u,hu,ru⟩:=RelO.some_of (v:=v) (o:=mA f) (by rw[<- l]; exact r f);exact AB I.kIn O (c.get f) c.hd n hu (O5 ru) (h u _ (I.tok _) ru)
theorem Hg {m:Str} {g:Addr} {pl:Sem Bool} {Q:Value×List Value->Shared->Prop} (I:Inv X pins σ H s) (e:H a=some (.ins C dx fs)) (c:Cls X.K C) (k:Gn X.K C m g) (l:fs.lookup m=none)
  (h:Q (.ref g,[.ref a]) s):wpAny (model X.prog X.w) A (getMethod (.ref a) m pl) Q E s:=by
 obtain⟨mA,O,r,_,_,_⟩:=Ol I.hok e;have hn:mA m=none:=RelO.none_of (by rw[<- l]; exact r m);exact U8 I.kIn O (c.get m) k.at_ k.fn hn h
theorem Zz {y:V} {u:Value} {Q:Unit->Shared->Prop} (I:Inv X pins σ H s) (e:H a=some (.ins C dx fs)) (c:Cls X.K C) (n:NoAttr X.K C f) (hl:fs.length<1000) (ry:RelV y u)
  (h:∀ s',Inv X pins σ (upd H a (.ins C dx (Bi f y fs))) s'->Q () s'):wpAny (model X.prog X.w) A (setAttr (.ref a) f u) Q E s:=by
 obtain⟨mA,O,r,wi,_,ho⟩:=Ol I.hok e;have hz:(fs.map (·.1)).length<=sizeLine:=by rw[zAb,zCv]; lia
 refine AK I.kIn O c.sa c.po n.taker c.hd wi hz fun h' O' sb=>h _ ?_;have hd:∃ o,h'.get? dx=some o:=let ⟨o,_,_,e',_⟩:=O'.ns; ⟨o,e'⟩
 refine I.write (x:=a) (e:=dx) (by rw[e]; exact True.intro) (.inr ho) (fun b q hb z=>(sb.2 b hb).trans z) hd ?_;refine⟨by rw[Aq O.ne]; exact ho,?_,O.ne,O'.obj,_,O'.ns,fun g=>?_,fun g hg=>?_⟩
 ·have:=Nr f y fs; lia
 ·show RelO ((Bi f y fs).lookup g) (if g=f then some u else mA g)
  rw[Bl];by_cases q:g=f
  ·rw[if_pos q,if_pos q]; exact ry
  ·rw[if_neg q,if_neg q]; exact r g
 ·by_cases q:g=f
  ·rw[q]; exact (Mj f y fs).1
  ·refine (Mj f y fs).2 g (wi g fun z=>hg ?_)
   show (if g=f then some u else mA g)=none;rw[if_neg q]; exact z
theorem Inv.made (I:Inv X pins σ H s):Inv X pins σ (upd (upd H s.heap.objs.size (.own (s.heap.objs.size+1))) (s.heap.objs.size+1) (.ins C s.heap.objs.size []))
  { s with heap:=(s.heap.push zAP).push (zAZ C s.heap.objs.size) }:=by
 have e1:(s.heap.push zAP).get? s.heap.objs.size=some zAP:=zAt s.heap rfl;have e2:((s.heap.push zAP).push (zAZ C s.heap.objs.size)).get? (s.heap.objs.size+1)=some (zAZ C s.heap.objs.size):=by
  have:=zAt (s.heap.push zAP) (o:=zAZ C s.heap.objs.size) rfl
  rwa [zBm] at this
 have e3:(s.heap.push zAP).Ns s.heap.objs.size (fun _=>none):=⟨zAP,#[],_,e1,rfl,(fun e he=>absurd he (by simp)),fun _=>rfl⟩;have I1:=I.laid (a:=s.heap.objs.size) (o:=.own (s.heap.objs.size+1)) (h':=s.heap.push zAP) (t':=s.toks) (fun b u q=>zAc _ q) (zAf _) ⟨_,e1⟩;refine I1.laid (a:=s.heap.objs.size+1) (o:=.ins C s.heap.objs.size []) (t':=s.toks) (fun b u q=>zAc _ q) (zBP (zBm _ _)) ?_;have ne:s.heap.objs.size≠s.heap.objs.size+1:=zAm (zBs _);refine⟨by rw[Aq ne,Af],zAk _,ne,e2,fun _=>none,(Heap.Ns1.of_empty e3).at fun o q=>zAc _ q,fun _=>True.intro,fun y hy=>absurd rfl hy⟩
theorem Z7 {prog:Program} {w:World} {env:Env} {e:Expr} {f:Str} {pos:Pos} {s:Shared} {Q:Value->Shared->Prop} (hb:attributeBase e f env (eval e env)=eval e env)
  (h:wpAny (model prog w) A (eval e env) (fun o s₁ => wpAny (model prog w) A (getAttr o f true) Q E s₁) E s):wpAny (model prog w) A (eval (.Attribute e f pos) env) Q E s:=
 Attribute_any_ h (by rw[arm_eval_Attribute,hb])
end
def HA (K:zAa) (ta:TE) (f:Str):TE:=fun σ H Q=>ta σ H fun x H1=>∃ a C dx fs v,x = .ref a/\H1 a=some (.ins C dx fs)/\Cls K C/\NoAttr K C f/\fs.lookup f=some v/\Q v H1
def HV (K:zAa) (ta tv:TE) (f:Str):TS:=fun D σ H=>tv σ H fun y H1=>ta σ H1 fun x H2=>∃ a C dx fs,x = .ref a/\H2 a=some (.ins C dx fs)/\Cls K C/\NoAttr K C f/\fs.length<1000 /\
 D.nx σ (upd H2 a (.ins C dx (Bi f y fs)))
section
variable {X:Cx} {o e value:Expr} {f:Str} {pos pos' tpos:Pos} {ta tv:TE}
theorem Cc (he:PE X e ta) (hb:attributeBase e f X.env (eval e X.env)=eval e X.env):PE X (.Attribute e f pos) (HA X.K ta f):=by
 intro pins s σ H Q I h;refine Z7 hb (Ca (he pins s σ H _ I h) fun u s1 ⟨x,H1,I1,rx,a,C,dx,fs,v,ex,ea,c,n,l,q⟩=>?_);subst ex;obtain rfl:u=Value.ref a:=rx;exact Zg I1 ea c n l fun u' s2 I2 ru=>⟨v,H1,I2,ru,q⟩
theorem Di (ha:PE X o ta) (hv:PE X value tv) (hs:swapsWith value (some (.Attribute o f pos')) pos.line X.env=pure false):PS X (.Assign [.Attribute o f pos'] value pos) (HV X.K ta tv f):=by
 intro pins s σ H D I h;refine plainObj_wpAny_Assign_Attribute (Ca (hv pins s σ H _ I h) fun u s1 ⟨y,H1,I1,ry,q⟩=>Ca (ha pins s1 σ H1 _ I1 q) fun ov s2 ⟨x,H2,I2,rx,a,C,dx,fs,ex,ea,c,n,l,q2⟩=>?_) hs;subst ex;obtain rfl:ov=Value.ref a:=rx;exact Zz I2 ea c n l ry fun s3 I3=>⟨σ,_,I3,q2⟩
theorem CI {pl:Sem Bool} {m:Str} {apos:Pos} {args:List Expr} {pins:List (Addr×Obj)} {s:Shared} {σ:St} {H:Hp} {Q:Value->Shared->Prop} {te:TE} (he:PE X e te) (I:Inv X pins σ H s)
  (h:te σ H fun x H1=>∃ a C dx fs g,x = .ref a/\H1 a=some (.ins C dx fs)/\Cls X.K C/\Gn X.K C m g/\fs.lookup m=none /\
   ∀ s1,Inv X pins σ H1 s1->wpAny (model X.prog X.w) X.A (callWith pos (.ref g) [.ref a] (backTo pos (starEach args X.env)) (backToKw pos (keywordEach [] X.env))) Q X.xe s1)
  (ht:eval (.Call (.Attribute e m apos) args [] pos) X.env=(do
   let ov <- eval e X.env
   standAt apos.atName
   let (f,first) <- holding [ov] (getMethod ov m pl)
   callWith pos f first (backTo pos (starEach args X.env)) (backToKw pos (keywordEach [] X.env)))) :
  wpAny (model X.prog X.w) X.A (eval (.Call (.Attribute e m apos) args [] pos) X.env) Q X.xe s:=by
 refine zBQ (pl:=pl) (Ca (he pins s σ H _ I h) fun u s1 ⟨x,H1,I1,rx,a,C,dx,fs,g,ex,ea,c,k,l,q⟩=>?_) ht;subst ex;obtain rfl:u=Value.ref a:=rx;exact Hg I1 ea c k l (q s1 I1)
end
section
variable {X:Cx} {pins:List (Addr×Obj)} {σ:St} {H:Hp} {s:Shared} {A:Around} {E:Value->Shared->Prop} {Q:Value->Shared->Prop} {c:Value} {b:Bool}
inductive TyOf (K:zAa) (H:Hp):V->Value->Prop where
 | non:TyOf K H .non (.type "NoneType")
 | bl (x:Bool):TyOf K H (.bl x) (.type "bool")
 | int (i:Int):TyOf K H (.int i) (.type "int")
 | str (x:Str):TyOf K H (.str x) (.type "str")
 | flt (x:UInt64):TyOf K H (.flt x) (.type "float")
 | lst {a:Addr} {xs:List V} (e:H a=some (.lst xs)):TyOf K H (.ref a) (.type "list")
 | frz {a:Addr} {o:Obj} {xs:List V} (e:H a=some (.frz o (.lst xs))):TyOf K H (.ref a) (.type "list")
 | tup {a:Addr} {xs:List V} (e:H a=some (.tup xs)):TyOf K H (.ref a) (.type "tuple")
 | dK {a:Addr} {kvs:List (Ff×V)} (e:H a=some (.dK kvs)):TyOf K H (.ref a) (.type "dict")
 | dT {a:Addr} {kvs:List (List Ff×V)} (e:H a=some (.dT kvs)):TyOf K H (.ref a) (.type "dict")
 | ins {a C dx:Addr} {fs:List (Str×V)} (e:H a=some (.ins C dx fs)) (cl:Cls K C) (ha:zAe K (.ref C) "__class__" = some (some (.builtin "object.__class__")))
   (hn:PySem.W.specialIn K (.builtin "object.__class__") "__get__" = some (some (.builtin "getset_descriptor.__get__"))) (htk:PySem.W.takesIn K (.builtin "object.__class__")=some true)
   (hm:PySem.W.mroIn K C (.type "object")=some true):TyOf K H (.ref a) (.ref C)
theorem K0 {x:V} {u t:Value} (I:Inv X pins σ H s) (rx:RelV x u) (ty:TyOf X.K H x t) (e:zAE X.K t c=some b) (h:∀ tk,Q (.bool b) { s with toks:=tk }) :
  wpAny (model X.prog X.w) A (call (.builtin "isinstance") [u,c]) Q E s:=by
 cases ty with
 | non=>cases (show u=Value.none from rx); exact zBd PySem.W.kitx_none I.kIn True.intro e (fun z=>nomatch z) h
 | bl y=>cases (show u=Value.bool y from rx); exact zBd PySem.W.kitx_bool I.kIn True.intro e (fun z=>nomatch z) h
 | int i=>obtain⟨t,q⟩:=(show ∃ t,u=Value.int i t from rx); cases q; exact zBd PySem.W.kitx_int I.kIn True.intro e (fun z=>nomatch z) h
 | str y=>obtain⟨t,q⟩:=(show ∃ t,u=Value.str y t from rx); cases q; exact zBd PySem.W.kitx_str I.kIn True.intro e (fun z=>nomatch z) h
 | flt y=>obtain⟨t,q⟩:=(show ∃ t,u=Value.float y t from rx); cases q; exact zBd PySem.W.kitx_float I.kIn True.intro e (fun z=>nomatch z) h
 | @lst a xs ea=>
  cases (show u=Value.ref a from rx)
  obtain⟨_,_,n,_,h1⟩:=(show ObjOk X.prog X.w H s.heap a (.lst xs) from I.hok a _ ea);exact zBd PySem.W.kitx_list I.kIn ⟨_,h1,rfl⟩ e (fun z=>nomatch z) h
 | @frz a ob xs ea=>
  cases (show u=Value.ref a from rx)
  obtain⟨_,_,_,n,_,h1⟩:=(show ObjOk X.prog X.w H s.heap a (.frz ob (.lst xs)) from I.hok a _ ea);exact zBd PySem.W.kitx_list I.kIn ⟨_,h1,rfl⟩ e (fun z=>nomatch z) h
 | @tup a xs ea=>
  cases (show u=Value.ref a from rx)
  obtain⟨_,_,_,p⟩:=(show ObjOk X.prog X.w H s.heap a (.tup xs) from I.hok a _ ea);obtain⟨o,h1,h2,_⟩:=p;exact zBd PySem.W.kitx_tuple I.kIn ⟨o,h1,h2⟩ e (fun z=>nomatch z) h
 | @dK a kvs ea=>
  cases (show u=Value.ref a from rx)
  obtain⟨_,_,vs,_,p⟩:=(show ObjOk X.prog X.w H s.heap a (.dK kvs) from I.hok a _ ea);obtain⟨o,es,ep,h1,h2,_⟩:=p;exact zBd PySem.W.kitx_dict I.kIn ⟨o,h1,h2.1⟩ e (fun z=>nomatch z) h
 | @dT a kvs ea=>
  cases (show u=Value.ref a from rx)
  obtain⟨_,_,xs,_,o,es,ep,h1,h2,_⟩:=(show ObjOk X.prog X.w H s.heap a (.dT kvs) from I.hok a _ ea);exact zBd PySem.W.kitx_dict I.kIn ⟨o,h1,h2.1⟩ e (fun z=>nomatch z) h
 | @ins a C dx fs ea cl ha hn htk hm=>
  cases (show u=Value.ref a from rx)
  obtain⟨mA,O,_⟩:=Ol I.hok ea;obtain⟨od,J,_⟩:=O.look;exact zBd (PySem.W.kitx_own (cl.get _) cl.hd ha hn htk hm) I.kIn J e (fun z=>nomatch z) h
end
structure Room (k:Nat) (A:Around):Prop where
 hd:A.handled=none
 dp:A.depth+3*k+5<recursionLimit
 un:A.units+16*k+200<cLine
theorem Room.mono {j k:Nat} {A:Around} (r:Room k A) (h:j<=k):Room j A:=⟨r.hd,by have:=r.dp; lia,by have:=r.un; lia⟩
theorem Room.deeper {k:Nat} {A:Around} (r:Room (k+1) A) (env:Env):Room k (A.deeper env):=
 ⟨r.hd,by have:=r.dp; show A.depth+1+3*k+5<_; lia,by have:=r.un; show A.units+3+16*k+200<_; lia⟩
theorem Zr {A:Around} {C:Addr} {us:List Value} {kw:List (Str×Value)}:(A.under (.builtin "type.__call__" ⟨.ref C::us,kw⟩)).depth=A.depth+1:=by
 first | rfl | simp [Around.under,Code.weight,Code.isCreation,Code.isGuard,Code.isCaller,Code.frames,Code.isFrame,guardIds]
theorem Yq {A:Around} {C:Addr} {us:List Value} {kw:List (Str×Value)}:(A.under (.builtin "type.__call__" ⟨.ref C::us,kw⟩)).units=A.units+1:=by
 first | rfl | simp [Around.under,Code.cUnits,Code.frames,Code.isFrame]
theorem Room.make {k:Nat} {A:Around} (r:Room (k+1) A) (C:Addr) (us:List Value) (kw:List (Str×Value)):Room k (A.under (.builtin "type.__call__" ⟨.ref C::us,kw⟩)):=
 ⟨r.hd,by have:=r.dp; rw[Zr]; lia,by have:=r.un; rw[Yq]; lia⟩
theorem Room.depth {k:Nat} {A:Around} (r:Room k A):A.depth<recursionLimit:=by have:=r.dp; lia
theorem Room.units {k:Nat} {A:Around} (r:Room k A):A.units+64<cLine:=by have:=r.un; lia
theorem Room.units0 {k:Nat} {A:Around} (r:Room k A):A.units<cLine:=by have:=r.un; lia
def Zh:TA:=fun _ H Q=>Q [] H
def Ge (ta:TE) (tr:TA):TA:=fun σ H Q=>ta σ H fun x H1=>tr σ H1 fun xs H2=>Q (x::xs) H2
section
variable {X:Cx} {e:Expr} {es:List Expr} {te:TE} {t:TA} {pos:Pos}
theorem Ah:PA X [] Zh:=fun _ _ _ _ H Q I h=>Calls.spliced_nil ⟨[],H,I,.nil,h⟩
theorem Aa (ha:PE X e te) (hr:PA X es t) (hs:starEach (e::es) X.env=(false,eval e X.env)::starEach es X.env:=by rfl):PA X (e::es) (Ge te t):=by
 intro pos pins s σ H Q I h;rw[hs];show wpAny _ _ (spliced ((false,eval e X.env)::backTo pos (starEach es X.env))) _ _ s;refine Calls.spliced_cons (Ca (ha pins s σ H _ I h) fun u s1 ⟨x,H1,I1,r1,q1⟩=>?_);exact Ca (hr pos pins s1 σ H1 _ I1 q1) fun us s2 ⟨xs,H2,I2,r2,q2⟩=>⟨x::xs,H2,I2,.cons r1 r2,q2⟩
def FE (t:TA):TE:=fun σ H Q=>t σ H fun xs H1=>xs.length<=sizeLine/\∀ p,H1 p=none->Q (.ref p) (upd H1 p (.tup xs))
def IA (t:TA):TE:=fun σ H Q=>t σ H fun xs H1=>xs.length<=sizeLine/\∀ p,H1 p=none->Q (.ref p) (upd H1 p (.lst xs))
theorem Cp {x1} (h:PA X es t):PE X (.Tuple es x1 pos) (FE t):=by
 intro pins s σ H Q I hq;refine wpAny_Tuple_spliced (Ca (h pos pins s σ H _ I hq) fun us s1 ⟨xs,H1,I1,r,z,q⟩=>⟨by rw[<- r.length]; exact z,?_⟩);have hf:H1 s1.heap.objs.size=none:=I1.hok.fresh (zAf _);refine⟨.ref s1.heap.objs.size,upd H1 s1.heap.objs.size (.tup xs),I1.laid (t':=s1.toks) (fun b u e=>zAc _ e) (zAf _) ?_,rfl,q _ hf⟩;exact⟨z,us,r,⟨_,zAt _ rfl,rfl,_,rfl⟩⟩
theorem Bp (h:PA X es t):PE X (.List es pos) (IA t):=by
 intro pins s σ H Q I hq;refine wpAny_List_spliced (Ca (h pos pins s σ H _ I hq) fun us s1 ⟨xs,H1,I1,r,z,q⟩=>⟨by rw[<- r.length]; exact z,?_⟩);have hf:H1 s1.heap.objs.size=none:=I1.hok.fresh (zAf _);refine⟨.ref s1.heap.objs.size,upd H1 s1.heap.objs.size (.lst xs),I1.laid (t':=s1.toks) (fun b u e=>zAc _ e) (zAf _) ?_,rfl,q _ hf⟩;exact⟨z,us,0,r,zAt _ rfl⟩
end
abbrev Sp:=List V->Hp->VK->XK->Prop
abbrev G9:=List Env->Hp->Shared->XK->Value->Shared->Prop
structure Env0 (P:Program) (w:World) (K:zAa) (mg:Str->Option Value) (base:Heap) (A:Around) (outer:List Env) (s:Shared) (H:Hp):Prop where
 frames:A.frames=some outer
 mod:Mod K mg base
 bs:∀ b o,base.get? b=some o->s.heap.get? b=some o/\H b=none
 bsz:base.objs.size<=s.heap.objs.size
 funs:s.heap.FunFrames base outer
 frf:∀ b∈Xj outer,H b=none
 hok:HOk P w H s.heap
 bare:AllBare s.gens
def CE (outer:List Env) (P:Program) (w:World) (H:Hp) (s:Shared) (Q:VK) (u:Value) (s':Shared):Prop:=
 ∃ v H',s'.os=s.os/\AllBare s'.gens/\Un (Xj outer) [] H H' s.heap s'.heap/\HOk P w H' s'.heap/\RelV v u/\Q v H'
def CR (CX:G9) (outer:List Env) (P:Program) (w:World) (H:Hp) (s:Shared) (Q:VK) (E:XK) (r:Result) (s':Shared):Prop:=
 match r with
 | .ok (.ret u)=>CE outer P w H s Q u s'
 | .ok _=>False
 | .error e=>CX outer H s E e s'
structure FnOk (P:Program) (w:World) (K:zAa) (mg:Str->Option Value) (base:Heap) (CX:G9) (k:Nat) (f:Addr) (fd:zCx) (ps:List Str) (sp:Sp):Prop where
 len:∀ vs H Q E,sp vs H Q E->vs.length=ps.length
 run:∀ (A:Around) (outer:List Env) (s:Shared) (H:Hp) (args:Args) (us:List Value) (vs:List V) (Q:VK) (E:XK),Room k A->Env0 P w K mg base A outer s H->BindsTo s fd args (ps.zip us)->Vals vs us->sp vs H Q E ->
  codeAny (model P w) A (.call (.ref f) args) (CR CX outer P w H s Q E) s
theorem FnOk.mono {P:Program} {w:World} {K:zAa} {mg:Str->Option Value} {base:Heap} {CX:G9} {j k:Nat} {f:Addr} {fd:zCx} {ps:List Str} {sp:Sp} (F:FnOk P w K mg base CX j f fd ps sp) (h:j<=k) :
  FnOk P w K mg base CX k f fd ps sp:=⟨F.len,fun A outer s H args us vs Q E hr=>F.run A outer s H args us vs Q E (hr.mono h)⟩
theorem Env0.make {P:Program} {w:World} {K:zAa} {mg:Str->Option Value} {base:Heap} {A:Around} {outer:List Env} {s:Shared} {H:Hp} (e:Env0 P w K mg base A outer s H) (C:Addr) (us:List Value) (kw:List (Str×Value)) :
  Env0 P w K mg base (A.under (.builtin "type.__call__" ⟨.ref C::us,kw⟩)) outer s H:=⟨by first | exact e.frames | (simpa [Around.under,Code.envs,Code.isFrame,pushEnvs] using e.frames),e.mod,e.bs,e.bsz,e.funs,e.frf,e.hok,e.bare⟩
section
variable {X:Cx} {pins:List (Addr×Obj)} {σ:St} {H:Hp} {s s':Shared}
theorem Inv.env0 (I:Inv X pins σ H s):Env0 X.prog X.w X.K X.mg X.base X.A X.stack s H:=
 ⟨I.ok.frames,I.ok.mod,I.bs,zAA I.ok.bsz I.sz,I.stack,I.stkFree,I.hok,I.bare⟩
theorem Inv.after {Q:VK} {u:Value} (I:Inv X pins σ H s) (h:CE X.stack X.prog X.w H s Q u s'):EP X pins σ Q u s':=by
 obtain⟨v,H',os,bare,un,hok,r,q⟩:=h;obtain⟨hh,g,d,t,os'⟩:=s';obtain rfl:os'=s.os:=os;exact⟨v,H',I.call (h':=hh) (g':=g) (d':=d) (t':=t) (ch:=[]) un hok bare (fun b z=>absurd z (by simp)),r,q⟩
end
def Q5 (sp:Sp) (dvs:List V) (E:XK) (t:TA):TE:=fun σ H Q=>t σ H fun vs H1=>sp (vs++dvs) H1 Q E
def BY (C:Addr) (m:Str) (sp:Sp) (dvs:List V) (E:XK) (ta:TE) (t:TA):TE:=fun σ H Q=>ta σ H fun x H1=>∃ a dx fs,x = .ref a/\H1 a=some (.ins C dx fs)/\fs.lookup m=none /\
 t σ H1 fun vs H2=>sp (x::(vs++dvs)) H2 Q E
def C9 (C:Addr) (sp:Sp) (dvs:List V) (E:XK) (t:TA):TE:=fun σ H Q=>t σ H fun vs H1=>∀ x dx,H1 x=none->H1 dx=none->dx≠x ->
 sp (.ref x::(vs++dvs)) (upd (upd H1 dx (.own x)) x (.ins C dx [])) (fun v H2=>v = .non/\Q (.ref x) H2) E
def Binds (K:zAa) (fd:zCx) (ps:List Str) (ds:List Value):Prop:=
 ∀ (s:Shared) (us:List Value),K.In s.heap->(us++ds).length=ps.length->BindsTo s fd ⟨us,[]⟩ (ps.zip (us++ds))
theorem Binds.all {K:zAa} {fd:zCx} {ps:List Str} (h:∀ us:List Value,us.length=ps.length->bindArgs fd ⟨us,[]⟩=pure (ps.zip us)):Binds K fd ps []:=fun s us _ hl=>by
 rw[zAJ] at hl ⊢;exact .of_eq (h us hl)
def Ko (CX:G9) (X:Cx) (E:XK):Prop:=∀ (pins:List (Addr×Obj)) (σ:St) (H:Hp) (s:Shared) (e:Value) (s':Shared),Inv X pins σ H s->CX X.stack H s E e s'->X.xe e s'
section
variable {X:Cx} {CX:G9} {k:Nat} {f C:Addr} {fd:zCx} {ps:List Str} {sp:Sp} {dvs:List V} {ds:List Value} {E:XK} {x m:Str} {p pos apos:Pos} {e o:Expr} {es:List Expr} {ta:TE} {t:TA}
theorem Tn {pins:List (Addr×Obj)} {σ:St} {H:Hp} {s:Shared} {Q:VK} {us:List Value} {vs:List V} (F:FnOk X.prog X.w X.K X.mg X.base CX k f fd ps sp) (hr:Room k X.A) (hb:Binds X.K fd ps ds) (hd:Vals dvs ds) (hx:Ko CX X E)
  (I:Inv X pins σ H s) (r:Vals vs us) (h:sp (vs++dvs) H Q E):wpAny (model X.prog X.w) X.A (call (.ref f) us) (EP X pins σ Q) X.xe s:=by
 have r2:Vals (vs++dvs) (us++ds):=r.append hd;have hl:(us++ds).length=ps.length:=by rw[<- r2.length]; exact F.len _ _ _ _ h
 refine wpAny_call (codeAny_mono (F.run X.A X.stack s H ⟨us,[]⟩ (us++ds) (vs++dvs) Q E hr I.env0 (hb s us I.kIn hl) r2 h) fun r s' hq=>?_);cases r with
 | error e=>exact hx pins σ H s e s' I hq
 | ok fl=>
  cases fl with
  | ret u=>exact I.after hq
  | next=>exact False.elim hq
  | brk=>exact False.elim hq
  | cont=>exact False.elim hq
theorem BL (F:FnOk X.prog X.w X.K X.mg X.base CX k f fd ps sp) (hr:Room k X.A) (hg:Gl X x) (hm:X.mg x=some (.ref f)) (hk:zAT X.K (.ref f)=true) (hb:Binds X.K fd ps ds) (hd:Vals dvs ds) (hx:Ko CX X E)
  (ha:PA X (e::es) t) (hdb:(x==("__debug__" : Str))=false:=by decide) (he:starEach (e::es) X.env=(false,eval e X.env)::starEach es X.env:=by rfl) (hpl:(backTo pos (starEach es X.env)).any (·.1)=false:=by rfl) :
  PE X (.Call (.Name x p) (e::es) [] pos) (Q5 sp dvs E t):=by
 intro pins s σ H Q I h;refine wpAny_Call_Name_kw (Gh I hg hm ?_ hdb);refine zBL (h₀ := X.base) I.ok.mod.kin hk (Ca (ha pos pins s σ H _ I h) fun us s1 ⟨vs,H1,I1,r,q⟩=>⟨I1.kIn,?_⟩) he hpl;exact Tn F hr hb hd hx I1 r q
theorem BG {pl:Sem Bool} (he:PE X o ta) (c:Cls X.K C) (hm:Gn X.K C m f) (F:FnOk X.prog X.w X.K X.mg X.base CX k f fd ps sp) (hr:Room k X.A) (hb:Binds X.K fd ps ds) (hd:Vals dvs ds) (hx:Ko CX X E) (ha:PA X (e::es) t)
  (hst:starEach (e::es) X.env=(false,eval e X.env)::starEach es X.env:=by rfl) (hpl:(backTo pos (starEach es X.env)).any (·.1)=false:=by rfl)
  (ht:eval (.Call (.Attribute o m apos) (e::es) [] pos) X.env=(do
   let ov <- eval o X.env
   standAt apos.atName
   let (f,first) <- holding [ov] (getMethod ov m pl)
   callWith pos f first (backTo pos (starEach (e::es) X.env)) (backToKw pos (keywordEach [] X.env))):=by rfl) :
  PE X (.Call (.Attribute o m apos) (e::es) [] pos) (BY C m sp dvs E ta t):=by
 intro pins s σ H Q I h;refine zBQ (pl:=pl) (Ca (he pins s σ H _ I h) fun u s1 ⟨x,H1,I1,rx,a,dx,fs,ex,ea,l,q⟩=>?_) ht;subst ex;obtain rfl:u=Value.ref a:=rx;refine Hg I1 ea c hm l ?_;refine zBL (first:=[.ref a]) (h₀ := X.base) I.ok.mod.kin hm.kp (Ca (ha pos pins s1 σ H1 _ I1 q) fun us s2 ⟨vs,H2,I2,r,q2⟩=>⟨I2.kIn,?_⟩) hst hpl;exact Tn (us:=.ref a::us) (vs:=.ref a::vs) F hr hb hd hx I2 (.cons rfl r) q2
structure Mk (K:zAa) (C f:Addr):Prop where
 makes:zBY K C=true
 init:zAe K (.ref C) "__init__" = some (some (.ref f))
 fn:zCb K (.ref f)=true
 kp:zAT K (.ref C)=true
theorem Wi {pins:List (Addr×Obj)} {σ:St} {H:Hp} {s:Shared} {Q:VK} {us:List Value} {vs:List V} (M:Mk X.K C f) (F:FnOk X.prog X.w X.K X.mg X.base CX k f fd ps sp) (hr:Room (k+1) X.A) (hb:Binds X.K fd ps ds) (hd:Vals dvs ds)
  (hx:Ko CX X E) (I:Inv X pins σ H s) (r:Vals vs us)
  (h:∀ x dx,H x=none->H dx=none->dx≠x->sp (.ref x::(vs++dvs)) (upd (upd H dx (.own x)) x (.ins C dx [])) (fun v H2=>v = .non/\Q (.ref x) H2) E) :
  wpAny (model X.prog X.w) X.A (call (.ref C) us) (EP X pins σ Q) X.xe s:=by
 have hq:=h (s.heap.objs.size+1) s.heap.objs.size (I.hok.fresh (zBh _)) (I.hok.fresh (zAf _)) (zAm (zBs _));have I2:=Inv.made (C:=C) I;have r2:Vals (V.ref (s.heap.objs.size+1)::(vs++dvs)) (Value.ref (s.heap.objs.size+1)::(us++ds)):=.cons rfl (r.append hd);have hl:(Value.ref (s.heap.objs.size+1)::us++ds).length=ps.length:=by
  have e:=r2.length;rw[F.len _ _ _ _ hq] at e;exact e.symm
 refine wpAny_call (W1 (f:=f) I.kIn M.makes M.init (beq_iff_eq.mp M.fn) (codeAny_mono (F.run _ X.stack _ _ ⟨Value.ref (s.heap.objs.size+1)::us,[]⟩ (Value.ref (s.heap.objs.size+1)::(us++ds)) _ _ E (hr.make C us [])
  (I2.env0.make C us []) (hb _ (Value.ref (s.heap.objs.size+1)::us) I2.kIn hl) r2 hq) fun r s' hq'=>?_))
 cases r with
 | error e=>exact hx pins σ _ _ e s' I2 hq'
 | ok fl=>
  cases fl with
  | ret u=>
   obtain⟨v,H',I3,rv,ev,q3⟩:=I2.after hq';subst ev;exact⟨rv,⟨V.ref (s.heap.objs.size+1),H',I3,rfl,q3⟩⟩
  | next=>exact False.elim hq'
  | brk=>exact False.elim hq'
  | cont=>exact False.elim hq'
theorem AQ (M:Mk X.K C f) (F:FnOk X.prog X.w X.K X.mg X.base CX k f fd ps sp) (hr:Room (k+1) X.A) (hg:Gl X x) (hm:X.mg x=some (.ref C)) (hb:Binds X.K fd ps ds) (hd:Vals dvs ds) (hx:Ko CX X E)
  (ha:PA X (e::es) t) (hdb:(x==("__debug__" : Str))=false:=by decide) (he:starEach (e::es) X.env=(false,eval e X.env)::starEach es X.env:=by rfl) (hpl:(backTo pos (starEach es X.env)).any (·.1)=false:=by rfl) :
  PE X (.Call (.Name x p) (e::es) [] pos) (C9 C sp dvs E t):=by
 intro pins s σ H Q I h;refine wpAny_Call_Name_kw (Gh I hg hm ?_ hdb);refine zBL (h₀ := X.base) I.ok.mod.kin M.kp (Ca (ha pos pins s σ H _ I h) fun us s1 ⟨vs,H1,I1,r,q⟩=>⟨I1.kIn,?_⟩) he hpl;exact Wi M F hr hb hd hx I1 r q
theorem W9 (M:Mk X.K C f) (F:FnOk X.prog X.w X.K X.mg X.base CX k f fd ps sp) (hr:Room (k+1) X.A) (hg:Gl X x) (hm:X.mg x=some (.ref C)) (hb:Binds X.K fd ps ds) (hd:Vals dvs ds) (hx:Ko CX X E)
  (hdb:(x==("__debug__" : Str))=false:=by decide):PE X (.Call (.Name x p) [] [] pos) (C9 C sp dvs E Zh):=by
 intro pins s σ H Q I h;refine wpAny_Call_Name_kw (Gh I hg hm ?_ hdb);exact PySem.W.callWith_K0 I.kIn M.kp (Wi (us:=[]) M F hr hb hd hx I .nil h)
end
section
variable {X:Cx} {CX:G9} {k:Nat} {f C:Addr} {fd:zCx} {ps ks:List Str} {sp:Sp} {E:XK} {x m:Str} {p pos apos kpos:Pos} {e o:Expr} {es:List Expr} {kws:List Keyword} {te ta:TE} {t tk:TA} {nm:Option Str}
variable {g:List Value->List Value->List Value} {gV:List V->List V->List V}
end
structure Aw (N P:List Str) (sc:Scope):Prop where
 kind:sc.kind = .function
 co:sc.isCoroutine=false
 gen:sc.isGenerator=false
 nd:N.Nodup
 pre:N.take P.length=P
 par:∀ x∈P,sc.names.lookup x=some .local\/sc.names.lookup x=some .cell
 nofree:∀ y∈sc.names,y.2 ≠ .free
theorem Ti {kindOf:Str->Option NameKind} {x:Str}:∀ {binds:List (Str×Value)} {m:Str->Option Value},(∀ v,(x,v)∉binds)->bindL kindOf binds m x=m x
 | [],_,_=>rfl
 | (n,v)::r,m,h=>by
  unfold bindL;rw[Ti fun w hw=>h w (zAs _ hw)]
  split
  ·have:x≠n:=by rintro rfl; exact h v zAo
   simp [this]
  ·rfl
theorem Te {kindOf:Str->Option NameKind} {x:Str}:∀ {binds:List (Str×Value)} {m:Str->Option Value},(∀ v,(x,v)∉binds)->bindC kindOf binds m x=m x
 | [],_,_=>rfl
 | (n,v)::r,m,h=>by
  unfold bindC;rw[Te fun w hw=>h w (zAs _ hw)]
  split
  ·rfl
  ·have:x≠n:=by rintro rfl; exact h v zAo
   simp [this]
theorem Sh {kindOf:Str->Option NameKind} {x:Str} {v:Value}:∀ {P:List Str} {vs:List Value} {i:Nat} {m:Str->Option Value},P.Nodup->P[i]?=some x->vs[i]?=some v->kindOf x=some .local ->
  bindL kindOf (P.zip vs) m x=some v
 | [],_,_,_,_,h,_,_=>by simp at h
 | _::_,[],_,_,_,_,h,_=>by simp at h
 | p::P,w::vs,0,m,nd,h1,h2,hk=>by
  simp at h1 h2; subst h1; subst h2;show bindL kindOf ((p,w)::P.zip vs) m p=_;unfold bindL;rw[Ti fun v hv=>(zBo.mp nd).1 (List.of_mem_zip hv).1,if_pos hk];simp
 | p::P,w::vs,i+1,m,nd,h1,h2,hk=>by
  show bindL kindOf ((p,w)::P.zip vs) m x=_;unfold bindL;exact Sh (i:=i) (zBo.mp nd).2 (by simpa using h1) (by simpa using h2) hk
theorem Su {kindOf:Str->Option NameKind} {x:Str} {v:Value}:∀ {P:List Str} {vs:List Value} {i:Nat} {m:Str->Option Value},P.Nodup->P[i]?=some x->vs[i]?=some v->kindOf x≠some .local ->
  bindC kindOf (P.zip vs) m x=some v
 | [],_,_,_,_,h,_,_=>by simp at h
 | _::_,[],_,_,_,_,h,_=>by simp at h
 | p::P,w::vs,0,m,nd,h1,h2,hk=>by
  simp at h1 h2; subst h1; subst h2;show bindC kindOf ((p,w)::P.zip vs) m p=_;unfold bindC;rw[Te fun v hv=>(zBo.mp nd).1 (List.of_mem_zip hv).1,if_neg hk];simp
 | p::P,w::vs,i+1,m,nd,h1,h2,hk=>by
  show bindC kindOf ((p,w)::P.zip vs) m x=_;unfold bindC;exact Su (i:=i) (zBo.mp nd).2 (by simpa using h1) (by simpa using h2) hk
def Gx (N:List Str) (vs:List V):St:=vs.map some++zAQ (N.length-vs.length) none
def Oe (CX:G9) (P:Program) (w:World) (K:zAa) (mg:Str->Option Value) (base:Heap) (N:List Str) (qual:Str) (scope:Scope) (f:Addr) (cd:Value) (A:Around) (outer:List Env) (s:Shared) (H:Hp) (E:XK):Cx where
 prog:=P
 w:=w
 K:=K
 mg:=mg
 base:=base
 A:=A.deeper (envOfC qual scope s.heap.objs.size f cd)
 N:=N
 s₀ := s
 H₀ := H
 env:=envOfC qual scope s.heap.objs.size f cd
 outer:=outer
 stack:=envOfC qual scope s.heap.objs.size f cd::outer
 ex:=[]
 calm:=true
 fn:=fun _=>true
 pn:=[]
 xe:=fun e s'=>wpAny (model P w) (A.deeper (envOfC qual scope s.heap.objs.size f cd)) (leaving (envOfC qual scope s.heap.objs.size f cd) e) (fun _ s''=>CX outer H s E e s'') (fun e' s''=>CX outer H s E e' s'') s'
theorem Vt {sc:Scope} {n:Nat} {x:Str} (h:sc.names.lookup x=some .cell):∃ c,(cellsFrom n sc.names []).lookup x=some c:=by
 have q:=zCk sc.names n [] (.inl h);exact zBx.mp q
theorem Se {CX:G9} {P:Program} {w:World} {K:zAa} {mg:Str->Option Value} {base:Heap} {N ps:List Str} {qual:Str} {scope:Scope} {f:Addr} {cd:Value} {A:Around} {outer:List Env} {s s1:Shared} {H:Hp} {E:XK} {us:List Value} {vs:List V}
  (S:Aw N ps scope) (hd:A.handled=none) (e0:Env0 P w K mg base A outer s H) (hl:vs.length=ps.length) (r:Vals vs us)
  (x:InCallC s s.heap.objs.size (bindL (envOfC qual scope s.heap.objs.size f cd).kindOf (ps.zip us) fun _=>none) (cellsFrom (s.heap.objs.size+1) scope.names []) (bindC (envOfC qual scope s.heap.objs.size f cd).kindOf (ps.zip us) fun _=>none) s1) :
  Inv (Oe CX P w K mg base N qual scope f cd A outer s H E) [] (Gx N vs) H s1:=by
 have hpl:ps.length<=N.length:=by have:=congrArg List.length S.pre; rw[zAK] at this; lia
 obtain⟨h1,tk,rfl,hk⟩:=x.done;have noA:∀ b:Addr,b∉(Oe CX P w K mg base N qual scope f cd A outer s H E).ex:=fun b z=>absurd (show b∈([]:List Addr) from z) (by simp);refine⟨⟨e0.mod,S.kind,rfl,rfl,zAf _,fun y z c h1 h2=>?_,fun y hy=>?_,fun y c _ h=>?_,fun _=>hd,Around.frames_deeper e0.frames,.inr ⟨rfl,rfl⟩,fun b z=>absurd z (noA b),e0.bs,e0.bsz,fun b _ _=>noA b,fun b z=>absurd z (noA b),e0.funs,e0.frf⟩,
  rfl,e0.bare,Un.kept hk,⟨_,x.toInCall.ns,fun i y v h1 h2 h3=>?_⟩,fun y c h=>⟨_,x.cell y c h⟩,e0.hok.fresh (zAf _),fun y c h=>?_,fun p hp=>absurd (show p∈([]:List (Addr×Obj)) from hp) (by simp),e0.hok.kept hk,?_⟩
 ·exact name_of_addr x.apart (PySem.mem_of_lookup h1) (PySem.mem_of_lookup h2)
 ·have hy:scope.names.lookup y=some .cell\/scope.names.lookup y=some .free:=hy
  rcases hy with hy | hy
  ·exact Vt hy
  ·exact absurd rfl (S.nofree _ (PySem.mem_of_lookup hy))
 ·exact zBw (x.above y c (PySem.mem_of_lookup h))
 ·have hi:i<vs.length:=by
   unfold Gx at h2;by_cases hi:i<vs.length
   ·exact hi
   ·rw[zBG (by simpa using hi)] at h2
    rw[List.getElem?_replicate] at h2
    split at h2 <;> cases h2
  have ha:vs[i]?=some v:=by
   unfold Gx at h2;rw[zBZ (by simpa using hi),zAu] at h2;cases e:vs[i]? with
   | none=>rw[e] at h2; cases h2
   | some a=>rw[e] at h2; cases h2; rfl
  obtain⟨u,hu,rv⟩:=r.get ha;have hp:ps[i]?=some y:=by
   rw[<- S.pre,List.getElem?_take_of_lt (by lia)]; exact h1
  have ndP:ps.Nodup:=by rw[<- S.pre]; exact S.nd.sublist (List.take_sublist _ _)
  refine⟨u,rv,?_⟩;rcases S.par y (zAB hp) with k | k
  ·exact .inl ⟨k,Sh ndP hp hu k⟩
  ·obtain⟨c,e⟩:=Vt (n:=s.heap.objs.size+1) k
   refine .inr ⟨.inl k,c,e,?_⟩;have q:=x.cell y c e;rw[Su ndP hp hu (by show scope.names.lookup y≠_; rw[k]; decide)] at q;exact q
 ·exact e0.hok.fresh (zBw (x.above y c (PySem.mem_of_lookup h)))
 ·unfold Gx
  show _=N.length;rw[zAi,zAb,zBD]
  lia
theorem P6 {CX:G9} {P:Program} {w:World} {K:zAa} {mg:Str->Option Value} {base:Heap} {k:Nat} {f:Addr} {name qual:Str} {params:Arguments} {body:List Stmt} {scope:Scope} {dV kV doc pm cdv ct oc:Value} {an od:Option Addr}
  {osl:Array (Option Value)} {N ps:List Str} {sp:Sp} (lk:K.lookup f=some ⟨oc,od,.func (zAV name qual params body scope dV kV doc pm an cdv ct),osl⟩) (hcd:zBn K cdv qual=true) (S:Aw N ps scope)
  (len:∀ vs H Q E,sp vs H Q E->vs.length=ps.length)
  (hbody:∀ (A:Around) (outer:List Env) (s:Shared) (H:Hp) (vs:List V) (Q:VK) (E:XK),Room k (A.deeper (envOfC qual scope s.heap.objs.size f cdv))->sp vs H Q E ->
   ∃ t,PSs (Oe CX P w K mg base N qual scope f cdv A outer s H E) body t/\t { nx:=fun _ H'=>Q .non H',rt:=Q } (Gx N vs) H) :
  FnOk P w K mg base CX (k+1) f (zAV name qual params body scope dV kV doc pm an cdv ct) ps sp:=by
 refine⟨len,fun A outer s H args us vs Q E hr e0 hb r hsp=>?_⟩;have hl:=len _ _ _ _ hsp;have KX:K.In s.heap:=e0.mod.kin.keeps fun b o e=>(e0.bs b o e).1;have lim:s.heap.NoLimit:=e0.mod.nolimit.keeps fun b o e=>(e0.bs b o e).1;have hkind:∀ y∈ps.zip us,scope.names.lookup y.1=some .local\/(scope.names.lookup y.1=some .cell/\((cellsFrom (s.heap.objs.size+1) scope.names []).lookup y.1).isSome=true):=fun ⟨n,v⟩ hy=>by
  rcases S.par n (List.of_mem_zip hy).1 with q | q
  ·exact .inl q
  ·exact .inr ⟨q,zCk _ _ _ (.inl q)⟩
 refine codeAny_call_function hr.depth (KX _ _ lk) rfl S.co S.gen rfl (PySem.W.codeRec_of KX hcd) (hb _ _ _ _ ?_);refine wpAny_newFunctionEnv_cells S.kind hkind fun env he s1 x=>?_;subst he;refine⟨lim.keeps x.toInCall.keep,codeAny_func ?_⟩;obtain⟨t,ht,hq⟩:=hbody A outer s H vs Q E (hr.deeper _) hsp;have I:Inv (Oe CX P w K mg base N qual scope f cdv A outer s H E) [] (Gx N vs) H s1:=Se S hr.hd e0 hl r x;refine wpAny_mono (ht [] s1 (Gx N vs) H _ I hq) (fun fl s' hs=>?_) fun e s' hs=>hs;have fin:∀ {σ':St} {H':Hp} {v:V} {u:Value},Inv (Oe CX P w K mg base N qual scope f cdv A outer s H E) [] σ' H' s'->RelV v u->Q v H'->CE outer P w H s Q u s':=
  fun {σ' H' v u} J rv q=>⟨v,H',J.os,J.bare,J.base,J.hok,rv,q⟩
 cases fl with
 | ret u=>
  obtain⟨v,σ',H',J,rv,q⟩:=hs;exact fin J rv q
 | next=>
  obtain⟨σ',H',J,q⟩:=hs;exact fin (v:=V.non) (u:=Value.none) J rfl q
 | brk=>
  obtain⟨_,_,_,q⟩:=hs;exact False.elim q
 | cont=>
  obtain⟨_,_,_,q⟩:=hs;exact False.elim q
section
variable {X:Cx} {x:Str} {p pos:Pos} {e:Expr} {es:List Expr} {t:TA} {id T:String} {r:List V->Hp->VK->Prop}
def JB (r:List V->Hp->VK->Prop) (t:TA):TE:=fun σ H Q=>t σ H fun vs H1=>r vs H1 Q
theorem Bb (hc:Fk X (.builtin id) r) (hg:Gl X x) (hm:X.mg x=none) (hv:zCw x=some (.builtin id)) (ha:PA X (e::es) t) (hn:x ≠ "__name__" := by decide) (hdb:(x==("__debug__" : Str))=false:=by decide)
  (he:starEach (e::es) X.env=(false,eval e X.env)::starEach es X.env:=by rfl) (hpl:(backTo pos (starEach es X.env)).any (·.1)=false:=by rfl):PE X (.Call (.Name x p) (e::es) [] pos) (JB r t):=by
 intro pins s σ H Q I h;refine wpAny_Call_Name_kw (Dm I hg hm hv ?_ hn hdb);exact PyProof.Rows.callWith_builtin1 (Ca (ha pos pins s σ H _ I h) fun us s1 ⟨vs,H1,I1,r1,q1⟩=>hc pins s1 σ H1 vs us Q I1 r1 q1) he hpl
theorem El (hc:Fk X (.type T) r) (hg:Gl X x) (hm:X.mg x=none) (hv:zCw x=some (.type T)) (ha:PA X (e::es) t) (hn:x ≠ "__name__" := by decide) (hdb:(x==("__debug__" : Str))=false:=by decide)
  (he:starEach (e::es) X.env=(false,eval e X.env)::starEach es X.env:=by rfl) (hpl:(backTo pos (starEach es X.env)).any (·.1)=false:=by rfl):PE X (.Call (.Name x p) (e::es) [] pos) (JB r t):=by
 intro pins s σ H Q I h;refine wpAny_Call_Name_kw (Dm I hg hm hv ?_ hn hdb);exact PyProof.Rows.callWith_type1 (Ca (ha pos pins s σ H _ I h) fun us s1 ⟨vs,H1,I1,r1,q1⟩=>hc pins s1 σ H1 vs us Q I1 r1 q1) he hpl
end
end L2
namespace HT
open PySem PyProof.Rows
def lexLt:List Int->List Int->Bool
 | [],[]=>false
 | [],_::_=>true
 | _::_,[]=>false
 | x::xs,y::ys=>if x=y then lexLt xs ys else decide (x<y)
theorem lexLt_cons (x y:Int) (xs ys:List Int):lexLt (x::xs) (y::ys)=if x=y then lexLt xs ys else decide (x<y):=rfl
section
open PySem.SeqAt
open PySem.AutoSeq1 (wpAny_loadPart')
open PySem.MeetsSeq PySem.MeetsSeq2 PySem.MeetsSeq3
end
section
variable {prog:Program} {w:World} {A:Around} {E:Value->Shared->Prop} {s:Shared}
def sIx (n d:Nat):Option Int->Nat
 | none=>d
 | some v=>if v<0 then (v+(n:Int)).toNat else min v.toNat n
end
end HT
namespace L2
open PySem PySem.Spec PyProof.Rows
abbrev TO:=St->Hp->(Option Int->Hp->Prop)->Prop
def PO (X:Cx) (e:Option Expr) (t:TO):Prop:=
 ∀ (pins:List (Addr×Obj)) (s:Shared) (σ:St) (H:Hp) (Q:Option Int->Hp->Prop),Inv X pins σ H s->t σ H Q ->
  wpAny (model X.prog X.w) X.A (evalPart e X.env) (fun u s'=>∃ o H',Inv X pins σ H' s'/\IsPart u o/\Q o H') X.xe s
def E1:TO:=fun _ H Q=>Q none H
def CO (t:TE):TO:=fun σ H Q=>t σ H fun x H1=>∃ i,x = .int i/\Q (some i) H1
theorem Jy {ns:List Int}:∀ {us:List Value},Vals (ns.map V.int) us->IntsAre us ns:=by
 induction ns with
 | nil=>intro us r; rw[List.map_nil] at r; cases r; exact .nil
 | cons n ns ih=>
  intro us r;rw[zBa] at r;cases r with
  | cons r1 r2=>
   obtain⟨t,e⟩:=r1;subst e;exact .cons n t (ih r2)
section
variable {X:Cx} {e:Expr} {te:TE} {lo hi:Option Expr} {tl th:TO} {pos p2:Pos}
theorem E6:PO X none E1:=by
 intro pins s σ H Q I h;rw[evalPart_none];exact zCu ⟨none,H,I,.none,h⟩
theorem Oq (h:PE X e te):PO X (some e) (CO te):=by
 intro pins s σ H Q I hw;rw[evalPart_some];refine Ca (h pins s σ H _ I hw) fun u s1 ⟨x,H1,I1,r1,q1⟩=>?_;obtain⟨i,rfl,q⟩:=q1;obtain⟨t,rfl⟩:=r1;exact⟨some i,H1,I1,.int i t,q⟩
def IX (X:Cx) (r:V->Option Int->Option Int->Hp->VK->Prop):Prop:=
 ∀ (pins:List (Addr×Obj)) (s:Shared) (σ:St) (H:Hp) (x:V) (v vl vu:Value) (lo hi:Option Int) (sl:Addr) (Q:VK),Inv X pins σ H s->RelV x v->s.heap.IsSliceOf sl vl vu .none->IsPart vl lo->IsPart vu hi->r x lo hi H Q ->
  ∃ T id,typeLookup (.type T) "__getitem__" = pure (some (.builtin id))/\s.TypeIs v T/\wpAny (model X.prog X.w) X.A (getItem v (.ref sl)) (EP X pins σ Q) X.xe s
def JL (r:V->Option Int->Option Int->Hp->VK->Prop) (te:TE) (tl th:TO):TE:=fun σ H Q=>te σ H fun x H1=>tl σ H1 fun l H2=>th σ H2 fun u H3=>r x l u H3 Q
theorem Pd {r:V->Option Int->Option Int->Hp->VK->Prop} (hr:IX X r) (he:PE X e te) (hl:PO X lo tl) (hu:PO X hi th):PE X (.Subscript e (.Slice lo hi none p2) pos) (JL r te tl th):=by
 intro pins s σ H Q I h;refine Subscript_ (Ca (he pins s σ H _ I h) fun v s1 ⟨x,H1,I1,r1,q1⟩=>?_);refine wpAny_Slice (Ca (hl pins s1 σ H1 _ I1 q1) fun vl s2 ⟨l,H2,I2,pl,q2⟩=>Ca (hu pins s2 σ H2 _ I2 q2) fun vu s3 ⟨u,H3,I3,pu,q3⟩=>?_);rw[evalPart_none];refine zCu ?_;have I4:Inv X pins σ H3 { s3 with heap:=s3.heap.push { cls:=.type "slice",data:=.fields #[vl,vu,.none] } }:=I3.kept (t':=s3.toks) fun b ob q=>zAc _ q;obtain⟨T,id,hT,ht,hg⟩:=hr pins { s3 with heap:=s3.heap.push { cls:=.type "slice",data:=.fields #[vl,vu,.none] } } σ H3 x v vl vu l u s3.heap.objs.size Q I4 r1 (Heap.IsSliceOf.new ..) pl pu q3;show wpAny (model X.prog X.w) X.A (subscriptTail e (.Slice lo hi none p2) v (.ref s3.heap.objs.size)) (EP X pins σ Q) X.xe { s3 with heap:=s3.heap.push { cls:=.type "slice",data:=.fields #[vl,vu,.none] } };exact tail_any (ops:=[.ref s3.heap.objs.size,v]) ht hT hg (by with_unfolding_all rfl)
def G5 (xs:List V) (lo hi:Option Int):List V:=(xs.drop (HT.sIx xs.length 0 lo)).take (HT.sIx xs.length xs.length hi-HT.sIx xs.length 0 lo)
theorem Xn (xs:List V) (lo hi:Option Int):(G5 xs lo hi).length<=xs.length:=by
 unfold G5;rw[zAK,List.length_drop]
 lia
def HS (K:zAa):V->Option Int->Option Int->Hp->VK->Prop:=fun x lo hi H Q=>∃ a xs,x = .ref a/\SqT K H a xs /\
 ¬ (HT.sIx xs.length 0 lo=0/\HT.sIx xs.length xs.length hi=xs.length)/\∀ p,H p=none->Q (.ref p) (upd H p (.tup (G5 xs lo hi)))
end
def ED (n:Nat) (i:Int):Option Nat:=if 0<=i then (if i<n then some i.toNat else none) else if -(n:Int)<=i then some (i+n).toNat else none
def Zb {α:Type} (xs:List α) (i:Int):Option α:=(ED xs.length i).bind fun j=>xs[j]?
theorem E7 {n:Nat} {i:Int} {j:Nat} (h:ED n i=some j):seqIndex? i n=some j/\j<n/\-(n:Int)<=i/\i<n:=by
 unfold ED at h;by_cases h0:0<=i
 ·rw[if_pos h0] at h
  by_cases h1:i<n
  ·rw[if_pos h1] at h
   have e:i.toNat=j:=Option.some.inj h;exact⟨by rw[seqIndex_of h0 h1,e],by lia,by lia,h1⟩
  ·rw[if_neg h1] at h; cases h
 ·rw[if_neg h0] at h
  by_cases h1 : -(n:Int)<=i
  ·rw[if_pos h1] at h
   have e:(i+n).toNat=j:=Option.some.inj h;exact⟨by rw[seqIndex_neg (by lia) h1,e],by lia,h1,by lia⟩
  ·rw[if_neg h1] at h; cases h
theorem Uu {α:Type} {xs:List α} {i:Int} {v:α} (h:Zb xs i=some v):∃ j,seqIndex? i xs.length=some j/\xs[j]?=some v/\j<xs.length/\-(xs.length:Int)<=i/\i<xs.length:=by
 unfold Zb at h;cases e:ED xs.length i with
 | none=>rw[e] at h; cases h
 | some j=>
  rw[e] at h;obtain⟨h1,h2,h3,h4⟩:=E7 e;exact⟨j,h1,h,h2,h3,h4⟩
theorem Uy {α:Type} {xs:List α} {j:Nat} {v:α} (h:xs[j]?=some v):Zb xs (j:Int)=some v:=by
 have hj:j<xs.length:=(zAj.mp h).1;have e:ED xs.length (j:Int)=some j:=by
  unfold ED;rw[if_pos (by lia),if_pos (by lia)]; simp
 unfold Zb; rw[e]; exact h
def AI (b:Expr):Prop:=∀ o i,subscripted b false o i=operate [o,i] (getItem o i)
def FJ (X:Cx) (r:R2):Prop:=
 ∀ (value slice:Expr) (pins:List (Addr×Obj)) (s:Shared) (σ:St) (H:Hp) (x y:V) (v u:Value) (Q:VK),Inv X pins σ H s->RelV x v->RelV y u->r x y H Q ->
  subscripted slice false v u=operate [v,u] (getItem v u)->wpAny (model X.prog X.w) X.A (subscriptTail value slice v u) (EP X pins σ Q) X.xe s
def HF (X:Cx) (id:String) (r:V->List V->Hp->VK->Prop):Prop:=
 ∀ (pins:List (Addr×Obj)) (s:Shared) (σ:St) (H:Hp) (x:V) (xs:List V) (v:Value) (us:List Value) (Q:VK),Inv X pins σ H s->RelV x v->Vals xs us->r x xs H Q ->
  wpAny (model X.prog X.w) X.A (call (.builtin id) (v::us)) (EP X pins σ Q) X.xe s
section
variable {X:Cx} {a b:Expr} {ta tb:TE} {pos:Pos}
theorem Be {r:R2} (hr:FJ X r) (ha:PE X a ta) (hb:PE X b tb) (hs:AI b):PE X (.Subscript a b pos) (Z1 r ta tb):=by
 intro pins s σ H Q I h;exact Subscript_ (DJ ha hb I h fun v u s2 x y H2 I2 rx ry q=>hr a b pins s2 σ H2 x y v u Q I2 rx ry q (hs _ _))
def GT (K:zAa):R2:=fun x y H Q=>∃ p xs i v,x = .ref p/\y = .int i/\SqL K H p xs/\Zb xs i=some v/\Q v H
def B6 (K:zAa):R2:=fun x y H Q=>∃ p xs i v,x = .ref p/\y = .int i/\SqT K H p xs/\Zb xs i=some v/\Q v H
def IK:R2:=fun x y H Q=>∃ z i c,x = .str z/\y = .int i/\z.length<=sizeLine/\Zb z.cps.toList i=some c/\Q (.str ⟨#[c]⟩) H
theorem Bx:FJ X (GT X.K):=by
 intro value slice pins s σ H x y v u Q I rx ry h hs;obtain⟨p,xs,i,z,rfl,rfl,hq,he,q⟩:=h;cases rx;obtain⟨t,rfl⟩:=ry;obtain⟨its,r,pl,hz⟩:=I.list hq;obtain⟨j,h1,h2,h3,h4,h5⟩:=Uu he;obtain⟨w,ew,rw'⟩:=r.get h2;have hl:=r.length;have hn:=Jz;have fin:EP X pins σ Q w s:=⟨z,H,I,rw',q⟩;by_cases h0:0<=i
 ·have hj:i.toNat=j:=by
   rw[seqIndex_of h0 h5] at h1;exact Option.some.inj h1
  exact item_listR pl.isList h0 (by lia) (by rw[hj]; simpa using ew) fin hs
 ·have hj:(i+(its.toArray.size:Int)).toNat=j:=by
   rw[seqIndex_neg (by lia) h4] at h1;rw[zAd,<- hl];exact Option.some.inj h1
  exact subscriptTail_builtinR (x:=w) pl.isList.typeIs slot_list_getitem.lookup
   (wpAny_getItem_list_neg (Q:=fun r s'=>r=w/\EP X pins σ Q r s') pl.isList (by lia) (by rw[zAd] <;> lia) (by lia) (by rw[hj]; simpa using ew) ⟨rfl,fin⟩) hs
theorem Br:FJ X (B6 X.K):=by
 intro value slice pins s σ H x y v u Q I rx ry h hs;obtain⟨p,xs,i,z,rfl,rfl,hq,he,q⟩:=h;cases rx;obtain⟨t,rfl⟩:=ry;obtain⟨its,r,pl,hz⟩:=I.tuple hq;obtain⟨j,h1,h2,h3,h4,h5⟩:=Uu he;obtain⟨w,ew,rw'⟩:=r.get h2;have hl:=r.length;have hn:=Jz;have fin:EP X pins σ Q w s:=⟨z,H,I,rw',q⟩;exact subscriptTail_builtinR (x:=w) pl.typeIs slot_tuple_getitem.lookup
  (getItem_tuple (j:=j) (Q:=fun r s'=>r=w/\EP X pins σ Q r s') pl (by lia) (by lia) (by rw[zAd,<- hl]; exact h1) (by simpa using ew) ⟨rfl,fin⟩) hs
theorem Z0:FJ X IK:=by
 intro value slice pins s σ H x y v u Q I rx ry h hs;obtain⟨z,i,c,rfl,rfl,hz,he,q⟩:=h;obtain⟨t,rfl⟩:=rx;obtain⟨t',rfl⟩:=ry;obtain⟨j,h1,h2,h3,h4,h5⟩:=Uu he;have hl:z.cps.toList.length=z.length:=by simp [Str.length]
 rw[hl] at h1 h4 h5;have hn:=Jz;exact tail_any (typeIs_str s z t) slot_str_getitem.lookup (getItem_str (c:=c) (by
  have e1:decide (i < -(2^63:Int))=false:=decide_eq_false (by lia);have e2:decide (i≥2^63)=false:=decide_eq_false (by lia);rw[e1,e2,Bool.or_false]) (by rw[h1]; simpa using h2) ⟨.str ⟨#[c]⟩,H,I.tok _,⟨_,rfl⟩,q⟩) hs
theorem B4 (its:List Value) (n j:Nat) (u:Value):Obj.mapSeq (·.setIfInBounds j u) { cls:=.type "list",data:=.seq its.toArray n }={ cls:=.type "list",data:=.seq (its.set j u).toArray n }:=by
 simp [Obj.mapSeq]
theorem Inv.lst {pins:List (Addr×Obj)} {σ:St} {H:Hp} {s:Shared} {p:Addr} {xs:List V} (I:Inv X pins σ H s) (h:H p=some (.lst xs)) :
  ∃ (its:List Value) (n:Nat),Vals xs its/\s.heap.get? p=some { cls:=.type "list",data:=.seq its.toArray n }/\xs.length<=sizeLine:=by
 obtain⟨z,its,n,r,e⟩:=I.hok p _ h;exact⟨its,n,r,e,z⟩
theorem Inv.lstUpd {pins:List (Addr×Obj)} {σ:St} {H:Hp} {s:Shared} {p:Addr} {xs ys:List V} {its its':List Value} {n n':Nat} {f:Obj->Obj} (I:Inv X pins σ H s) (h:H p=some (.lst xs))
  (ho:s.heap.get? p=some { cls:=.type "list",data:=.seq its.toArray n }) (hf:f { cls:=.type "list",data:=.seq its.toArray n }={ cls:=.type "list",data:=.seq its'.toArray n' }) (r:Vals ys its') (hz:ys.length<=sizeLine) (t:Nat) :
  Inv X pins σ (upd H p (.lst ys)) { s with heap:=s.heap.update p f,toks:=t }:=by
 have e:(s.heap.update p f).get? p=some { cls:=.type "list",data:=.seq its'.toArray n' }:=by
  rw[zAX f ho (by rw[hf] <;> rfl),hf]
 refine I.write (x:=p) (e:=p) (by rw[h]; trivial) (.inl rfl) (fun b u hb q=>(zAM _ _ (Ne.symm hb)).trans q) ⟨_,e⟩ ?_;exact⟨hz,its',n',r,e⟩
def GX:V->V->V->Hp->(Hp->Prop)->Prop:=fun o i v H Q=>∃ p xs k j,o = .ref p/\i = .int k/\H p=some (.lst xs)/\ED xs.length k=some j/\Q (upd H p (.lst (xs.set j v)))
theorem R9:FX X GX:=by
 intro pins s σ H o i v ov iv u Q I ro ri rv h;obtain⟨p,xs,k,j,rfl,rfl,hp,hj,q⟩:=h;cases ro;obtain⟨t,rfl⟩:=ri;obtain⟨its,n,r,ho,hz⟩:=I.lst hp;obtain⟨h1,h2,h3,h4⟩:=E7 hj;have hl:=r.length;have hn:=Jz;have I':Inv X pins σ (upd H p (.lst (xs.set j v))) { s with heap:=s.heap.update p (Obj.mapSeq (·.setIfInBounds j u)) }:=
  I.lstUpd hp ho (B4 its n j u) (r.set rv j) (by rw[List.length_set]; exact hz) s.toks
 by_cases h0:0<=k
 ·have hk:k.toNat=j:=by
   rw[seqIndex_of h0 h4] at h1;exact Option.some.inj h1
  exact PySem.W.ki_setAt ho h0 (by lia) (by rw[zAd,<- hl]; exact h4) (by rw[hk]; exact⟨_,I',q⟩)
 ·have hk:(k+(its.toArray.size:Int)).toNat=j:=by
   rw[seqIndex_neg (by lia) h3] at h1;rw[zAd,<- hl];exact Option.some.inj h1
  exact PySem.W.ki_setBack ho (by lia) (by rw[zAd,<- hl]; exact h3) (by lia) (by rw[hk]; exact⟨_,I',q⟩)
theorem Ug (lo hi:Option Int) (n:Nat):(sliceBounds lo hi none n).1=((HT.sIx n 0 lo:Nat):Int)/\(sliceBounds lo hi none n).2.1=((HT.sIx n n hi:Nat):Int)/\(sliceBounds lo hi none n).2.2=1:=by
 refine⟨?_,?_,rfl⟩
 ·cases lo with
  | none=>simp [sliceBounds,HT.sIx]
  | some i=>
   simp only [sliceBounds,HT.sIx,Option.getD_none,show (1:Int)>0 by decide,if_true];by_cases h:i<0
   ·simp only [h,if_true] <;> lia
   ·simp only [h,if_false] <;> lia
 ·cases hi with
  | none=>simp [sliceBounds,HT.sIx]
  | some i=>
   simp only [sliceBounds,HT.sIx,Option.getD_none,show (1:Int)>0 by decide,if_true];by_cases h:i<0
   ·simp only [h,if_true] <;> lia
   ·simp only [h,if_false] <;> lia
theorem Qz (its:List Value) (lo hi:Option Int):slicePick its.toArray lo hi none=((its.drop (HT.sIx its.length 0 lo)).take (HT.sIx its.length its.length hi-HT.sIx its.length 0 lo)).toArray:=by
 obtain⟨h1,h2,h3⟩:=Ug lo hi its.toArray.size;unfold slicePick;rw[h1,h2,h3];simp only [sliceRange_one,pick_run,zAd] <;> rfl
def HQ (K:zAa):V->Option Int->Option Int->Hp->VK->Prop:=fun x lo hi H Q=>∃ a xs,x = .ref a/\SqL K H a xs/\∀ p,H p=none->Q (.ref p) (upd H p (.lst (G5 xs lo hi)))
theorem C0:IX X (HQ X.K):=by
 intro pins s σ H x v vl vu lo hi sl Q I rx hs pl pu h;obtain⟨a,xs,rfl,hx,q⟩:=h;cases rx;obtain⟨its,r,ht,hz⟩:=I.list hx;have hlen:=r.length;refine⟨"list",_,slot_list_getitem.lookup,ht.isList.typeIs,?_⟩;refine wpAny_getItem_list_slice ht.isList hs pl pu .none (by simp) ?_ (by rw[zAd] <;> lia);rw[Qz,<- hlen];refine⟨.ref s.heap.objs.size,_,I.laid (t':=s.toks) (o:=.lst (G5 xs lo hi)) (fun b ob q=>zAc _ q) (zAf _) ?_,rfl,q _ (I.hok.fresh (zAf _))⟩;exact⟨zAA (Xn xs lo hi) hz,_,0,(r.drop (HT.sIx xs.length 0 lo)).take (HT.sIx xs.length xs.length hi-HT.sIx xs.length 0 lo),zAt _ rfl⟩
def Gc:V->Bool
 | .non=>true
 | .bl _=>true
 | .int _=>true
 | .str _=>true
 | _=>false
def F4:V->V->Bool
 | .non,.non=>true
 | .bl a,.bl b=>a==b
 | .bl a,.int b=>(if a then 1 else 0)==b
 | .int a,.bl b=>a==(if b then 1 else 0)
 | .int a,.int b=>a==b
 | .str a,.str b=>a==b
 | _,_=>false
theorem X3 {A:Around} {s:Shared} {y x:V} {u v:Value} (ry:RelV y u) (rx:RelV x v) (fy:Gc y=true) (fx:Gc x=true):SeqAt.EqAt A s u v (F4 y x):=by
 cases y with
 | non=>
  cases ry
  cases x with
  | non=>cases rx; exact SeqAt.EqAt.same _
  | bl b=>cases rx; exact SeqAt.EqAt.none_bool b
  | int b=>obtain⟨t,rfl⟩:=rx; exact SeqAt.EqAt.none_int b t
  | str b=>obtain⟨t,rfl⟩:=rx; exact SeqAt.EqAt.none_str b t
  | _=>exact absurd (show false=true from fx) zAr
 | bl a=>
  cases ry
  cases x with
  | non=>cases rx; exact SeqAt.EqAt.bool_none a
  | bl b=>cases rx; exact SeqAt.EqAt.bool_bool a b
  | int b=>obtain⟨t,rfl⟩:=rx; exact SeqAt.EqAt.bool_int a b t
  | str b=>obtain⟨t,rfl⟩:=rx; exact SeqAt.EqAt.bool_str a b t
  | _=>exact absurd (show false=true from fx) zAr
 | int a=>
  obtain⟨t',rfl⟩:=ry;cases x with
  | non=>cases rx; exact SeqAt.EqAt.int_none a t'
  | bl b=>cases rx; exact SeqAt.EqAt.int_bool a t' b
  | int b=>obtain⟨t,rfl⟩:=rx; exact SeqAt.EqAt.int_int a t' b t
  | str b=>obtain⟨t,rfl⟩:=rx; exact SeqAt.EqAt.int_str a t' b t
  | _=>exact absurd (show false=true from fx) zAr
 | str a=>
  obtain⟨t',rfl⟩:=ry;cases x with
  | non=>cases rx; exact SeqAt.EqAt.str_none a t'
  | bl b=>cases rx; exact SeqAt.EqAt.str_bool a t' b
  | int b=>obtain⟨t,rfl⟩:=rx; exact SeqAt.EqAt.str_int a t' b t
  | str b=>obtain⟨t,rfl⟩:=rx; exact SeqAt.EqAt.str_str a t' b t
  | _=>exact absurd (show false=true from fx) zAr
 | _=>exact absurd (show false=true from fy) zAr
def N5 (x:V) (u:Value):Bool:=match u with
 | .none=>F4 .non x
 | .bool b=>F4 (.bl b) x
 | .int i _=>F4 (.int i) x
 | .str z _=>F4 (.str z) x
 | _=>false
theorem Yt {x y:V} {u:Value} (r:RelV y u) (f:Gc y=true):N5 x u=F4 y x:=by
 cases y with
 | non=>cases r; rfl
 | bl b=>cases r; rfl
 | int i=>obtain⟨t,rfl⟩:=r; rfl
 | str z=>obtain⟨t,rfl⟩:=r; rfl
 | _=>exact absurd (show false=true from f) zAr
theorem Ul {x:V}:∀ {xs:List V} {us:List Value},Vals xs us->xs.all Gc=true->us.any (N5 x)=xs.any fun y=>F4 y x
 | _,_,.nil,_=>rfl
 | y::xs,u::us,.cons r t,f=>by
  rw[List.all_cons,zBt] at f;rw[zCm,zCm,Yt r f.1,Ul t f.2]
theorem Kw {A:Around} {s:Shared} {x:V} {v:Value} (rx:RelV x v) (fx:Gc x=true):∀ {xs:List V} {us:List Value},Vals xs us->xs.all Gc=true->∀ u∈us,SeqAt.EqAt A s u v (N5 x u)
 | _,_,.nil,_=>fun u hu=>by cases hu
 | y::xs,u::us,.cons r t,f=>fun u' hu=>by
  rw[List.all_cons,zBt] at f;rcases zAp.mp hu with rfl | hu
  ·rw[Yt r f.1]; exact X3 r rx f.1 fx
  ·exact Kw rx fx t f.2 u' hu
def JC (x:V) (xs:List V):Bool:=xs.any fun y=>F4 y x
def JJ (K:zAa) (neg:Bool):R2:=fun x y H Q=>∃ p xs,y = .ref p/\(SqL K H p xs\/SqT K H p xs)/\Gc x=true/\xs.all Gc=true/\Q (.bl (if neg then !JC x xs else JC x xs)) H
theorem Sg:Jq X (compareOp .In) (JJ X.K false):=by
 intro pins s σ H x y v u Q I rx ry h;obtain⟨p,xs,rfl,hq,fx,fs,q⟩:=h;cases ry;rcases hq with hq | hq
 ·obtain⟨its,r,pl,hz⟩:=I.list hq
  refine SeqAt.in_listAt (N5 x) pl.isList (fun w hw=>Kw rx fx r fs w (by simpa using hw)) ⟨.bl _,H,I,rfl,?_⟩;rw[show its.toArray.any (N5 x)=its.any (N5 x) by simp,Ul r fs];exact q
 ·obtain⟨its,r,pl,hz⟩:=I.tuple hq
  refine SeqAt.in_tupleAt (N5 x) pl (fun w hw=>Kw rx fx r fs w (by simpa using hw)) ⟨.bl _,H,I,rfl,?_⟩;rw[show its.toArray.any (N5 x)=its.any (N5 x) by simp,Ul r fs];exact q
theorem Uw:Jq X (compareOp .NotIn) (fun x y H Q=>∃ i j,x = .str i/\y = .str j/\Q (.bl (!(!(Builtin.Str.occurrences j i 0 j.length 1).isEmpty))) H):=by
 intro pins s σ H x y v u Q I rx ry h;obtain⟨i,j,rfl,rfl,q⟩:=h;obtain⟨t,rfl⟩:=rx;obtain⟨t',rfl⟩:=ry;exact notIn_str ⟨.bl _,H,I,rfl,q⟩
theorem Bh:Fk X (.builtin "len") (fun xs H Q=>∃ p ys,xs=[.ref p]/\(SqL X.K H p ys\/SqT X.K H p ys)/\Q (.int ys.length) H):=by
 intro pins s σ H xs us Q I r h;obtain⟨p,ys,rfl,hq,q⟩:=h;obtain⟨u,rfl,rx⟩:=Ia r;cases rx;have hn:=Jz;rcases hq with hq | hq
 ·obtain⟨its,r',pl,hz⟩:=I.list hq
  have hlen:=r'.length;exact Calls.call_len_list pl.isList (by simp only [zAd] <;> lia) ⟨.int ys.length,H,I.tok _,⟨s.toks+1,by rw[zAd,hlen]⟩,q⟩
 ·obtain⟨its,r',pl,hz⟩:=I.tuple hq
  have hlen:=r'.length;exact len_tuple pl (by simp only [zAd] <;> lia) ⟨.int ys.length,H,I.tok _,⟨s.toks+1,by rw[zAd,hlen]⟩,q⟩
theorem Hv:Fk X (.builtin "len") (fun xs H Q=>∃ z,xs=[.str z]/\z.length<=sizeLine/\Q (.int z.length) H):=by
 intro pins s σ H xs us Q I r h;obtain⟨z,rfl,hz,q⟩:=h;obtain⟨u,rfl,t,rfl⟩:=Ia r;have hn:=Jz;exact len_str (by lia) ⟨.int z.length,H,I.tok _,⟨_,rfl⟩,q⟩
theorem Ei:Fk X (.type "list") (fun xs H Q=>∃ p ys,xs=[.ref p]/\(SqL X.K H p ys\/SqT X.K H p ys)/\∀ l,H l=none->Q (.ref l) (upd H l (.lst ys))):=by
 intro pins s σ H xs us Q I r h;obtain⟨p,ys,rfl,hq,q⟩:=h;obtain⟨u,rfl,rx⟩:=Ia r;cases rx;have fin:∀ (its:List Value),Vals ys its->ys.length<=sizeLine->∀ (h':Heap) (c':Nat),(∀ b o',s.heap.get? b=some o'->h'.get? b=some o') ->
   h'.get? s.heap.objs.size=some { cls:=.type "list",dict:=none,data:=.seq its.toArray c',slots := #[] }->EP X pins σ Q (.ref s.heap.objs.size) { s with heap:=h' }:=fun its r' hz h' c' kp e=>
  ⟨.ref s.heap.objs.size,_,I.laid (t':=s.toks) kp (zAf _) (show ObjOk X.prog X.w _ h' _ (.lst ys) from ⟨hz,its,c',r',e⟩),rfl,q _ (I.hok.fresh (zAf _))⟩
 rcases hq with hq | hq
 ·obtain⟨its,r',pl,hz⟩:=I.list hq
  have hlen:=r'.length;obtain⟨o,ho,hc,n,hd⟩:=pl.isList;exact call_list_seq p (.inl rfl) ho hc hd (fun h' c' kp e=>fin its r' hz h' c' kp e) (by simp only [zAd] <;> lia)
 ·obtain⟨its,r',pl,hz⟩:=I.tuple hq
  have hlen:=r'.length;obtain⟨o,ho,hc,n,hd⟩:=pl;exact call_list_seq p (.inr rfl) ho hc hd (fun h' c' kp e=>fin its r' hz h' c' kp e) (by simp only [zAd] <;> lia)
def HL (K:zAa) (T:String) (x:V) (H:Hp):Prop:=match x with
 | .str _=>T = "str"
 | .int _=>T = "int"
 | .ref p=>(T = "list"/\∃ xs,SqL K H p xs)\/(T = "tuple"/\∃ o,K.lookup p=some o/\o.cls = .type "tuple"/\o.dict=none) \/
   (T = "dict"/\((∃ kvs,H p=some (.dK kvs))\/∃ kvs,H p=some (.dT kvs)))\/(T = "set"/\∃ S n,H p=some (.set S n))
 | _=>False
theorem U4 {pins:List (Addr×Obj)} {σ:St} {H:Hp} {s:Shared} {T:String} {x:V} {v:Value} (I:Inv X pins σ H s) (r:RelV x v) (ty:HL X.K T x H) :
  s.TypeIs v T/\∀ a,v = .ref a->∃ ob,s.heap.get? a=some ob/\ob.dict=none:=by
 cases x with
 | str z=>
  obtain⟨t,rfl⟩:=r;cases (show T = "str" from ty);exact⟨typeIs_str s z t,fun _ e=>nomatch e⟩
 | int i=>
  obtain⟨t,rfl⟩:=r;cases (show T = "int" from ty);exact⟨typeIs_int s i t,fun _ e=>nomatch e⟩
 | ref p=>
  cases r
  rcases ty with ⟨rfl,xs,hq⟩ | ⟨rfl,o,hk,hc,hd⟩ | ⟨rfl,hk⟩ | ⟨rfl,S,n,hk⟩
  ·obtain⟨its,_,pl,_⟩:=I.list hq
   refine⟨pl.isList.typeIs,fun a e=>?_⟩;cases e;obtain⟨o,n,e,c,hd,_⟩:=pl;exact⟨o,e,hd⟩
  ·refine⟨⟨o,I.kIn p o hk,hc⟩,fun a e=>?_⟩
   cases e
   exact⟨o,I.kIn _ o hk,hd⟩
  ·have z:∃ o,s.heap.get? p=some o/\o.ExactDict:=by
    rcases hk with ⟨kvs,hk⟩ | ⟨kvs,hk⟩
    ·obtain⟨_,_,_,_,o,_,_,e,ex,_⟩:=I.hok p _ hk
     exact⟨o,e,ex⟩
    ·obtain⟨_,_,_,_,o,_,_,e,ex,_⟩:=I.hok p _ hk
     exact⟨o,e,ex⟩
   obtain⟨o,e,ex⟩:=z;refine⟨⟨o,e,ex.1⟩,fun a e2=>?_⟩;cases e2;exact⟨o,e,ex.2.1⟩
  ·obtain⟨o,_,_,_,e,ex,_⟩:=I.hok p _ hk
   refine⟨⟨o,e,ex.1⟩,fun a e2=>?_⟩;cases e2;exact⟨o,e,ex.2.1⟩
 | _=>exact False.elim ty
def IU (K:zAa) (T:String) (r:V->List V->Hp->VK->Prop) (to:TE):TE:=fun σ H Q=>to σ H fun x H1=>HL K T x H1/\r x [] H1 Q
def JM (K:zAa) (T:String) (r:V->List V->Hp->VK->Prop) (to:TE) (t:TA):TE:=fun σ H Q=>to σ H fun x H1=>HL K T x H1/\t σ H1 fun xs H2=>r x xs H2 Q
variable {o e:Expr} {es:List Expr} {to:TE} {t:TA} {name:Str} {apos cpos:Pos} {T id:String} {r:V->List V->Hp->VK->Prop}
theorem EI (pa:PlainAttrs T) (slot:Slot T name id) (hty:typeOf (.builtin id)=pure (.type "method_descriptor")) (hm:HF X id r) (ho:PE X o to)
  (hbase:attributeBase o name X.env (eval o X.env)=eval o X.env:=by rfl) (hline:(apos.endLine==cpos.line)=true:=by rfl):PE X (.Call (.Attribute o name apos) [] [] cpos) (IU X.K T r to):=by
 intro pins s σ H Q I h;refine wpAny_Call_method0_late hbase hline (Ca (ho pins s σ H _ I h) fun v s1 ⟨x,H1,I1,r1,ty,q1⟩=>?_);obtain⟨h1,h2⟩:=U4 I1 r1 ty;exact⟨T,id,pa,slot,hty,h1,h2,Calls.callWith_builtin rfl (PySem.evalArgs_none (hm pins s1 σ H1 x [] v [] Q I1 r1 .nil q1))⟩
theorem Fu (pa:PlainAttrs T) (slot:Slot T name id) (hty:typeOf (.builtin id)=pure (.type "method_descriptor")) (hm:HF X id r) (ho:PE X o to) (ha:PA X (e::es) t)
  (hbase:attributeBase o name X.env (eval o X.env)=eval o X.env:=by rfl)
  (hfew:((backTo cpos (starEach (e::es) X.env)).all (fun x => !x.1)&&(backToKw cpos (keywordEach [] X.env)).all (fun x=>x.1.isSome)
   && decide ((e::es).length+([]:List Keyword).length+(if ([]:List Keyword).isEmpty then 0 else 1)<30))=true:=by rfl)
  (hline:(apos.endLine==cpos.line)=true:=by rfl) (hs:starEach (e::es) X.env=(false,eval e X.env)::starEach es X.env:=by rfl) (hplain:(backTo cpos (starEach es X.env)).any (·.1)=false:=by rfl) :
  PE X (.Call (.Attribute o name apos) (e::es) [] cpos) (JM X.K T r to t):=by
 intro pins s σ H Q I h;refine wpAny_Call_method_late hbase hfew hline rfl (Ca (ho pins s σ H _ I h) fun v s1 ⟨x,H1,I1,r1,ty,q1⟩=>?_);obtain⟨h1,h2⟩:=U4 I1 r1 ty;refine⟨T,id,pa,slot,hty,h1,h2,?_⟩;have hA:=ha cpos pins s1 σ H1 _ I1 q1;rw[hs] at hA ⊢;refine Calls.callWith_builtin (by show (false||(backTo cpos (starEach es X.env)).any (·.1))=false; rw[hplain] <;> rfl) (Calls.evalArgs_plain ?_);exact Ca hA fun us s2 ⟨vs,H2,I2,r2,q2⟩=>hm pins s2 σ H2 x vs v us Q I2 r1 r2 q2
/- xs.append(e),list.index on a module's tuple .. are HF facts of 06m -/
end
def GJ (X:Cx) (id:String) (r:V->List V->Hp->VK->Prop):Prop:=
 ∀ (pins:List (Addr×Obj)) (s:Shared) (σ:St) (H:Hp) (x:V) (xs:List V) (v:Value) (us:List Value) (Q:VK),Inv X pins σ H s->RelV x v->Vals xs us->r x xs H Q ->
  wpAny (model X.prog X.w) X.A (call (.builtin id) (v::us)) (EP X pins σ Q) X.xe s
theorem Vals.one:∀ {x:V} {us:List Value},Vals [x] us->∃ u,us=[u]/\RelV x u
 | _,_,.cons r .nil=>⟨_,rfl,r⟩
theorem Vals.zero:∀ {us:List Value},Vals [] us->us=[]
 | _,.nil=>rfl
theorem Vals.dropLast {xs:List V} {us:List Value} (h:Vals xs us):Vals xs.dropLast us.dropLast:=by
 induction h with
 | nil=>exact .nil
 | cons r t ih=>
  cases t with
  | nil=>exact .nil
  | cons q t'=>exact .cons r ih
theorem Vals.reverse {xs:List V} {us:List Value} (h:Vals xs us):Vals xs.reverse us.reverse:=by
 induction h with
 | nil=>exact .nil
 | cons r t ih=>rw[List.reverse_cons,List.reverse_cons]; exact Vals.append ih (.cons r .nil)
theorem B2 {α:Type} (l:List α):l.eraseIdx (l.length-1)=l.dropLast:=by
 induction l with
 | nil=>rfl
 | cons a r ih=>
  cases r with
  | nil=>rfl
  | cons b r=>
   have e:(a::b::r).length-1=((b::r).length-1)+1:=by
    have h1:(a::b::r).length=r.length+2:=rfl;have h2:(b::r).length=r.length+1:=rfl
    lia
   rw[e,List.eraseIdx_cons_succ,ih]
   all_goals rfl
section
variable {X:Cx} {pins:List (Addr×Obj)} {σ:St} {H:Hp} {s:Shared} {l b:Addr} {xs ys zs:List V}
theorem Inv.lset {its its':List Value} {n:Nat} {f:Array Value->Array Value} {t':Nat} (I:Inv X pins σ H s) (hH:H l=some (.lst xs))
  (e:s.heap.get? l=some { cls:=.type "list",data:=.seq its.toArray n }) (hf:f its.toArray=its'.toArray) (hv:Vals ys its') (hz:ys.length<=sizeLine) :
  Inv X pins σ (upd H l (.lst ys)) { s with heap:=s.heap.update l (Obj.mapSeq f),toks:=t' }:=by
 have q:=PySem.IsL.update e f;rw[hf] at q;refine I.write (x:=l) (e:=l) (by rw[hH]; exact trivial) (.inl rfl) (fun b' u hb hu=>(zAM s.heap (Obj.mapSeq f) (Ne.symm hb)).trans hu) ⟨_,q⟩ ?_;exact⟨hz,its',_,hv,q⟩
theorem Inv.lnew {its:List Value} {t':Nat} (I:Inv X pins σ H s) (hv:Vals ys its) (hz:ys.length<=sizeLine) :
  Inv X pins σ (upd H s.heap.objs.size (.lst ys)) { s with heap:=s.heap.push { cls:=.type "list",data:=.seq its.toArray },toks:=t' }:=
 I.laid (fun _ _ q=>zAc _ q) (zAf _) ⟨hz,its,0,hv,zAt _ rfl⟩
theorem Inv.fresh (I:Inv X pins σ H s):H s.heap.objs.size=none:=I.hok.fresh (zAf _)
theorem Inv.lstM (I:Inv X pins σ H s) (hH:H l=some (.lst xs)):xs.length<=sizeLine/\∃ (its:List Value) (n:Nat),Vals xs its/\xs.length=its.length/\s.heap.get? l=some { cls:=.type "list",data:=.seq its.toArray n }:=by
 obtain⟨z,its,n,r,e⟩:=I.hok l _ hH;exact⟨z,its,n,r,r.length,e⟩
theorem P2 {n:Nat} (h:n<=sizeLine):Builtin.List.listTooLong n=false:=by
 unfold Builtin.List.listTooLong;exact decide_eq_false (by lia)
end
section
variable {X:Cx}
def AY:V->List V->Hp->VK->Prop:=fun x vs H Q=>∃ l xs y,x = .ref l/\vs=[y]/\H l=some (.lst xs)/\xs.length<sizeLine/\Q .non (upd H l (.lst (xs++[y])))
theorem Ek:GJ X "list.append" AY:=by
 intro pins s σ H x vs v us Q I rx rv h;obtain⟨l,xs,y,rfl,rfl,hH,hz,q⟩:=h;cases rx;obtain⟨u,rfl,ru⟩:=rv.one;obtain⟨z,its,n,r,hl,e⟩:=I.lstM hH;refine call_meets F.slot_list_append ⟨_,e,rfl⟩ F.entry_list_append (F.args_list_append_2 _ _) (PySem.list_append l its.toArray n u (by rw[zAd]; lia)) ⟨e,?_⟩;refine⟨.non,_,I.lset (its':=its++[u]) hH e (by simp) (r.append (.cons ru .nil)) ?_,rfl,q⟩;rw[zAi,List.length_singleton]
 lia
def AT:V->List V->Hp->VK->Prop:=fun x vs H Q=>∃ l b xs zs,x = .ref l/\vs=[.ref b]/\H l=some (.lst xs)/\H b=some (.lst zs)/\xs.length+zs.length<=sizeLine/\Q .non (upd H l (.lst (xs++zs)))
theorem Dz:GJ X "list.extend" AT:=by
 intro pins s σ H x vs v us Q I rx rv h;obtain⟨l,b,xs,zs,rfl,rfl,hH,hB,hz,q⟩:=h;cases rx;obtain⟨u,rfl,ru⟩:=rv.one;cases ru;obtain⟨z,its,n,r,hl,e⟩:=I.lstM hH;obtain⟨z2,its2,n2,r2,hl2,e2⟩:=I.lstM hB;have hsz:its.toArray.size+its2.toArray.size<=sizeLine:=by rw[zAd,zAd]; lia
 have hlong:¬ (!its.toArray.isEmpty&&Builtin.List.listTooLong (its.toArray.size+its2.toArray.size))=true:=by
  rw[P2 hsz,Bool.and_false];exact zAr
 refine call_meets F.slot_list_extend ⟨_,e,rfl⟩ F.entry_list_extend (F.args_list_extend_2 _ _)
  (AutoSeq1.list_extend_list_list_0 l its.toArray n b its2.toArray n2 hlong (by rw[zAd]; lia) (by lia)) ⟨e,e2,?_⟩
 refine⟨.non,_,I.lset (its':=its++its2) hH e (by simp) (r.append r2) ?_,rfl,q⟩;rw[zAi]
 lia
def HU:V->List V->Hp->VK->Prop:=fun x vs H Q=>∃ l xs y,x = .ref l/\vs=[]/\H l=some (.lst xs)/\xs[xs.length-1]?=some y/\Q y (upd H l (.lst xs.dropLast))
theorem DS:GJ X "list.pop" HU:=by
 intro pins s σ H x vs v us Q I rx rv h;obtain⟨l,xs,y,rfl,rfl,hH,hy,q⟩:=h;cases rx;have hus:=rv.zero;subst hus;obtain⟨z,its,n,r,hl,e⟩:=I.lstM hH;obtain⟨u,hu,ru⟩:=r.get hy;have hy':its.toArray[its.toArray.size-1]?=some u:=by
  show its.toArray[its.length-1]?=some u;rw[<- zBi,<- hl];exact hu
 refine call_meets F.slot_list_pop ⟨_,e,rfl⟩ F.entry_list_pop (F.args_list_pop_1 _) (MeetsSeq.list_pop_last l its.toArray n u hy' (by rw[zAd]; lia)) ⟨e,?_⟩;refine⟨y,_,I.lset (its':=its.dropLast) hH e ?_ r.dropLast ?_,ru,q⟩
 ·show its.toArray.eraseIdxIfInBounds (its.toArray.size-1)=its.dropLast.toArray
  rw[zAd,List.eraseIdxIfInBounds_toArray,B2]
 ·rw[List.length_dropLast]
  lia
def HP:R2:=fun x y H Q=>∃ l b xs zs,x = .ref l/\y = .ref b/\H l=some (.lst xs)/\H b=some (.lst zs)/\xs.length+zs.length<=sizeLine/\∀ p,H p=none->Q (.ref p) (upd H p (.lst (xs++zs)))
theorem Hr:Jq X (binaryOp .Add) HP:=by
 intro pins s σ H x y v u Q I rx ry h;obtain⟨l,b,xs,zs,rfl,rfl,hH,hB,hz,q⟩:=h;cases rx;cases ry;obtain⟨z,its,n,r,hl,e⟩:=I.lstM hH;obtain⟨z2,its2,n2,r2,hl2,e2⟩:=I.lstM hB;refine PySem.P.add_list e e2 ?_ (by rw[zAd,zAd]; lia);have ea:its.toArray++its2.toArray=(its++its2).toArray:=by simp
 rw[ea];exact⟨.ref _,_,I.lnew (t':=s.toks) (r.append r2) (by rw[zAi]; lia),rfl,q _ I.fresh⟩
theorem AO {α:Type} (xs:List α) (k:Nat):(zAQ k xs).flatten.length=k*xs.length:=by
 induction k with
 | zero=>simp
 | succ k ih=>rw[List.replicate_succ,List.flatten_cons,zAi,ih,zBK,Nat.add_comm]
end
section
variable {prog:Program} {w:World} {A:Around} {E:Value->Shared->Prop} {s:Shared}
end
section
variable {X:Cx}
end
end L2
namespace Att
open PySem PySem.W PySem.Calls PyProof.Rows
theorem Oc {P:Params} {h:Heap}:∀ (ns:List Int) (vs:List Value),WellAll P h vs (ns.map WData.int)->IntsAre vs ns:=by
 intro ns
 induction ns with
 | nil=>
  intro vs w;rw[List.map_nil] at w;cases w;exact .nil
 | cons n ns ih=>
  intro vs w;rw[zBa] at w;cases w with
  | cons a b=>
   cases a
   exact .cons _ _ (ih _ b)
theorem K5 {l:OpenLaw} {n:Nat} (hn:l.most=some n) {P:Params} {h:Heap} {args:List WData} {vals:List Value}
  (hpre:l.row.toRowW.claim.pre args=true) (hwl:WellAll P h vals args) :
  ∃ a vs ns,vals=[Value.ref a]/\args=[WData.list (ns.map WData.int)]/\h.get? a=some { cls:=.type "list",data:=.seq vs.toArray }/\IntsAre vs ns/\ns.length<=n:=by
 have hsh:WShape.hasAll [] args [.list .int]=true:=(pre_splitW hpre).1;have hc:l.pre.holds [] { args:=args }=true:=(pre_splitW hpre).2;obtain⟨d,r,rfl,h1,h2⟩:=hasAllW_cons hsh;obtain rfl:=hasAllW_nil h2;obtain⟨xs,rfl,h3⟩:=hasW_list h1;obtain⟨ns,rfl⟩:=items_int h3;have hlen:ns.length<=n:=by
  unfold OpenLaw.pre at hc;have h4:(WTm.not (.lt (.lit (.int (n:Int))) (.len (.arg 0)))).holds [] { args:=[.list (ns.map .int)] }=true:=by
   have h4:=(holds_andW hc).1;rw[hn] at h4;exact h4
  have h5:=condW_of h4 (w_not (w_lt w_lit (w_len_list (w_arg rfl))));rw[zAb] at h5;refine zCp fun q=>?_;have q':(n:Int)<((ns.length:Nat):Int):=by lia
  first
   | (rw[decide_eq_true q'] at h5; exact absurd h5 (by decide))
   | (simp at h5; lia)
 cases hwl with
 | cons w1 w2=>
  cases w2
  cases w1 with
  | list ho hall=>exact⟨_,_,ns,rfl,rfl,ho,Oc ns _ hall,hlen⟩
theorem O8 (l:OpenLaw) (args:List WData):l.row.toRowW.claim.post args (.bool true) args=true:=
 postW_of (r:=l.row.toRowW) (X:=(true==true))
  (show WShape.has [] (.bool true) .bool=true by first | rfl | decide | simp [WShape.has,WShape.arms,WShape.armsAll])
  (show (WTm.eq .res (.lit (.bool true))).value [] { args:=args,res:=some (.bool true),after:=args }=some (.bool (true==true)) from w_eq_bool (w_res rfl) w_lit) rfl
theorem attach_call {l:OpenLaw} {n:Nat} {q:Program} {loose:List Str} {XP:(Str->Option Value)->Heap->Prop} {YP:World->Heap->Prop} {d:DefRec}
  (hn:l.most=some n) (hdf:d.params.defaults=[])
  (call:∀ (w:World) (s₀ s₁ : Shared) (mg mb:Str->Option Value) (fa:Addr) (o:Obj) (pm cd doc:Value) (a:Addr) (vs:List Value) (ns:List Int),
   Ground q loose [] XP w s₀ mg mb s₁.heap->YP w s₁.heap ->
   s₁.heap.get? fa=some o->o.data = .func (docDef d.name d.params d.body d.scope pm cd doc)->s₁.heap.CodeRec cd d.name->mg d.name=some (.ref fa) ->
   s₁.heap.get? a=some { cls:=.type "list",data:=.seq vs.toArray }->IntsAre vs ns->ns.length<=n->s₁.gens = #[] ->
   codeAny (model l.prog w) callerA (.call (.ref fa) ⟨[.ref a],[]⟩) (fun r s'=>r = .ok (.ret (.bool true))/\OldK s₁.heap s'.heap/\s'.os=s₁.os/\AllBare s'.gens) s₁) :
  WalkO q loose XP YP l.row.toRowW d [] (fun f vs=>PySem.call f vs):=by
 intro w s₀ s₁ mg mb G Y fa o pm cd doc dV kV ho hd hcd hD hmg hg args vals as hpre hlay hrd hwl hlo;obtain rfl:dV = .none:=Dflts.none hD hdf;obtain rfl:kV = .none:=Dflts.noKw hD;obtain⟨a,vs,ns,rfl,rfl,hobj,hints,hlen⟩:=K5 hn hpre hwl;refine enter_call (codeAny_mono (call w s₀ s₁ mg mb fa o pm cd doc a vs ns G Y ho (fd_plain hd) hcd hmg hobj hints hlen hg) fun r s' hq=>?_);obtain⟨rfl,h2,h3,h4⟩:=hq;exact⟨.inl ⟨.bool true,.bool true,[],rfl,fun _=>rfl,.bool true,O8 l _,fun _=>⟨List.Pairwise.nil,fun _ hm=>(nomatch hm)⟩⟩,h2,h3,h4⟩
section
variable {prog:Program} {w:World} {A:Around} {E:Value->Shared->Prop} {s:Shared} {K:Frag}
end
end Att
namespace L2
open PySem PySem.Spec PyProof.Rows
theorem Si:∀ {vs:List Value} {ns:List Int},IntsAre vs ns->Vals (ns.map V.int) vs
 | _,_,.nil=>.nil
 | _,_,.cons n t h=>.cons ⟨t,rfl⟩ (Si h)
def EN (H:Hp):Prop:=∀ b,H b=none\/∃ o xs,H b=some (.frz o (.lst xs))
theorem W6 {P:Program} {w:World} {K:zAa} {mg mb:Str->Option Value} {CX:G9} {k:Nat} {fa a:Addr} {fd:zCx} {x:Str} {sp:Sp} {s₁ : Shared} {vs:List Value} {ns:List Int}
  (KX:K.In s₁.heap) (hns:s₁.heap.Ns zCy mg) (hb:s₁.heap.Ns builtinsNs mb) (hbb:∀ x:Str,x ≠ "__name__" -> mb x=zCw x) (hlim:s₁.heap.NoLimit) (hg:s₁.gens = #[])
  (ha:s₁.heap.get? a=some { cls:=.type "list",data:=.seq vs.toArray }) (hi:IntsAre vs ns) (hl:ns.length<=sizeLine) (hr:Room k callerA)
  (F:∀ base:Heap,K.In base->base.Ns zCy mg->FnOk P w K mg base CX k fa fd [x] sp) (hbind:∀ (s:Shared) (u:Value),BindsTo s fd ⟨[u],[]⟩ [(x,u)])
  (hsp:∀ H:Hp,EN H->SqL K H a (ns.map V.int)->sp [.ref a] H (fun v _=>v = .bl true) fun _ _ _=>False)
  (hCX:∀ H e s',CX [] H s₁ (fun _ _ _=>False) e s'->False) :
  codeAny (model P w) callerA (.call (.ref fa) ⟨[.ref a],[]⟩) (fun r s'=>r = .ok (.ret (.bool true))/\OldK s₁.heap s'.heap/\s'.os=s₁.os/\AllBare s'.gens) s₁ := by
 have rv:=Si hi;have lenV:=hi.length;have core:∀ H:Hp,EN H->SqL K H a (ns.map V.int)->HOk P w H s₁.heap->(∀ b,H b≠none->b=a)->(H a≠none->K.lookup a=none) ->
   codeAny (model P w) callerA (.call (.ref fa) ⟨[.ref a],[]⟩) (fun r s'=>r = .ok (.ret (.bool true))/\OldK s₁.heap s'.heap/\s'.os=s₁.os/\AllBare s'.gens) s₁ := by
  intro H hO hS hok hA hK;have base_of:∀ {b:Addr} {o:Obj},s₁.heap.get? b=some o->H b=none->(Tx s₁.heap H).get? b=some o:=fun e n=>X6 e n;have noA:∀ {b:Addr} {o:Obj} {es:Array DictEntry} {ep:Nat},s₁.heap.get? b=some o->o.data = .dict es ep->H b=none:=fun {b o es ep} e d=>by
   cases q:H b with
   | none=>rfl
   | some u=>
    have e':b=a:=hA b (by rw[q]; simp);subst e';rw[ha] at e; cases e;have d':Data.seq vs.toArray _=Data.dict es ep:=d;cases d'
  have nsK:∀ {b:Addr} {m:Str->Option Value},s₁.heap.Ns b m->(Tx s₁.heap H).Ns b m:=fun {b m} ⟨o,es,ep,e,d,r⟩=>⟨o,es,ep,base_of e (noA e d),d,r⟩;have hKb:K.In (Tx s₁.heap H):=fun b o e=>base_of (KX b o e) (by
   cases q:H b with
   | none=>rfl
   | some u=>
    have e':b=a:=hA b (by rw[q]; simp);subst e';rw[hK (by rw[q]; simp)] at e; cases e)
  have hM:Mod K mg (Tx s₁.heap H):=⟨hKb,nsK hns,⟨mb,nsK hb,hbb⟩,let ⟨mc,h1,h2⟩:=hlim; ⟨mc,nsK h1,h2⟩⟩;have e0:Env0 P w K mg (Tx s₁.heap H) callerA [] s₁ H:=⟨rfl,hM,fun b o e=>BO e,zBP (K9 _ _),trivial,fun b hb=>absurd (show b∈([]:List Addr) from hb) (by simp),hok,.of_eq hg⟩;refine codeAny_mono ((F _ hKb (nsK hns)).run callerA [] s₁ H ⟨[.ref a],[]⟩ [.ref a] [.ref a] _ _ hr e0 (hbind s₁ (.ref a)) (.cons rfl .nil) (hsp H hO hS)) fun r s' h=>?_;cases r with
  | error e=>exact (hCX H e s' h).elim
  | ok fl=>
   cases fl with
   | next=>exact False.elim h
   | brk=>exact False.elim h
   | cont=>exact False.elim h
   | ret u=>
    obtain⟨v,H',os,bare,un,hok',r',q⟩:=h;have q':v = .bl true:=q;subst q';obtain rfl:u=Value.bool true:=r';refine⟨rfl,OldK.of_keep fun b o e=>?_,os,bare⟩;cases q:H b with
    | none=>exact un.keep b o e q (by intro z; exact absurd (show b∈([]:List Addr) from z) (by simp)) (by simp)
    | some u=>
     rcases hO b with z | ⟨ob,xs,z⟩
     ·rw[q] at z; cases z
     ·have z2:=un.frzs b ob _ z
      obtain⟨e1,_⟩:=hok b _ z;obtain⟨e2,_⟩:=hok' b _ z2;rw[e] at e1; cases e1;exact e2
 cases hk:K.lookup a with
 | some o=>
  have e:=KX a o hk;rw[ha] at e;cases e;refine core (fun _=>none) (fun _=>.inl rfl) (.inr ⟨_,vs.toArray,_,hk,rfl,rfl,rfl,by rw[zAd,lenV]; exact hl,by simpa using rv⟩) (fun b u z=>by have z':(none:Option HO)=some u:=z; cases z') (fun b z=>absurd rfl z) fun z=>absurd rfl z
 | none=>
  refine core (fun b=>if b=a then some (.frz { cls:=.type "list",data:=.seq vs.toArray } (.lst (ns.map V.int))) else none) (fun b=>?_) (.inl (.inr ⟨{ cls:=.type "list",data:=.seq vs.toArray },if_pos rfl⟩)) (fun b u z=>?_) (fun b z=>?_) fun _=>hk
  ·by_cases hb:b=a
   ·exact .inr ⟨_,_,if_pos hb⟩
   ·exact .inl (if_neg hb)
  ·by_cases hb:b=a
   ·have z':=(if_pos hb).symm.trans z
    cases z'
    subst hb;exact⟨ha,by rw[zAb]; exact hl,vs,_,rv,ha⟩
   ·have z':=(if_neg hb).symm.trans z
    cases z'
  ·by_cases hb:b=a
   ·exact hb
   ·exact absurd (if_neg hb) z
theorem walk_of {l:PySem.W.OpenLaw} {n k:Nat} {q:Program} {loose:List Str} {XP:(Str->Option Value)->Heap->Prop} {YP:World->Heap->Prop} {d:DefRec} {K:Params->zAa} {CX:World->G9} {sp:World->Sp} {x:Str}
  (hn:l.most=some n) (hn2:n<=sizeLine) (hdf:d.params.defaults=[]) (hr:Room k callerA)
  (hY:∀ (w:World) (h:Heap),YP w h->(K w.params).In h)
  (F:∀ (w:World) (mg:Str->Option Value) (fa:Addr) (h:Heap),(K w.params).In h->h.Ns zCy mg->mg d.name=some (.ref fa) ->
   ∃ fd:zCx,(∀ (s:Shared) (u:Value),BindsTo s fd ⟨[u],[]⟩ [(x,u)]) /\
    ∀ base:Heap,(K w.params).In base->base.Ns zCy mg->FnOk l.prog w (K w.params) mg base (CX w) k fa fd [x] (sp w))
  (hsp:∀ (w:World) (H:Hp) (a:Addr) (ns:List Int),ns.length<=n->EN H->SqL (K w.params) H a (ns.map V.int)->sp w [.ref a] H (fun v _=>v = .bl true) fun _ _ _=>False)
  (hCX:∀ (w:World) (H:Hp) (s:Shared) (e:Value) (s':Shared),CX w [] H s (fun _ _ _=>False) e s'->False) :
  PySem.W.WalkO q loose XP YP l.row.toRowW d [] (fun f vs=>PySem.call f vs):=by
 refine Att.attach_call hn hdf fun w s₀ s₁ mg mb fa o pm cd doc a vs ns G Y ho hd hcd hmg hobj hints hlen hg=>?_;have KX:=hY w _ Y;obtain⟨fd,hb,hF⟩:=F w mg fa _ KX G.T.g hmg;exact W6 KX G.T.g G.T.b G.T.builtins G.T.nolimit hg hobj hints (zAA hlen hn2) hr hF hb (fun H hO hS=>hsp w H a ns hlen hO hS) fun H e s'=>hCX w H s₁ e s'
end L2
/- THE LAST THEOREM (shape; LID,My.* are yours):
   My.Adr: a structure of the addresses that your layer names (classes,functions); My.Txt K t: a structure (Prop) of the equations over K;
   My.txt_mk:{K} {implicit addresses ..} (e1:nsIn K zCy "law" = some (some (.ref f))) (e2:K.lookup f=some ⟨oc,od,.func (fnOf "law" "law" params body scope dV kV doc pm an cdv ct),sl⟩) (e3:codeIn K cdv "law" = true) .. : ∃ t,My.Txt K t
set_option tactic.hygienic true in
theorem PySem.Challenge.cw_LID_holds : PySem.Challenge.rw_LID.Holds := by
 w_on; o_law; k_head; (case hw=>w_witness2)
 k_fill
 refine L2.walk_of (l:=PySem.Challenge.rw_LID) (n:=63) (k:=40) (x := "script") (CX:=fun w=>..) (sp:=fun _=>My.sp_law) rfl (by decide) rfl ⟨rfl,by decide,by decide⟩ (fun w h Y=>PySem.W.kIn_of Y) ?F ?S ?C
 case F=>
  intro w mg fa h KX G hmg;have T:∃ t,My.Txt (L2.KOf KX) t:=by
   dsimp only [L2.KOf]                          -- K must stand as «<heap const> w.params» for k_is
   refine' My.txt_mk ?e1 ?e2 ?e3 ..
   (case e1=>PySem.W.k_is)                    -- in the order: a name -> its address -> its object -> its parts
   (case e2=>PySem.W.k_is)
   ..
  obtain⟨t,T⟩:=T;have e0:=hmg.symm.trans (zAv KX G T.law);cases e0                                       -- fa is the law's own address;exact⟨_,fun s u=>.of_eq rfl,fun base kb nb=>My.law_fn T kb nb⟩     -- if «.of_eq rfl» comes too early: refine' ⟨_,?b,fun base kb nb=>My.law_fn T kb nb⟩; exact fun s u=>.of_eq rfl
 case S=>exact fun w H a ns hl hO hS=>..
 case C=>exact ..
(the tactic k_is has no namespace: write k_is) -/
namespace L2
open PySem PySem.Spec PyProof.Rows
def Bt (s:Stmt) (j:Nat):Stmt:=match s with
 | .ClassDef _ _ _ body _ _ _ _ _ _ _=>body.getD j (.Pass ⟨0,0,0,0⟩)
 | _=>.Pass ⟨0,0,0,0⟩
def Cy (s:Stmt):Arguments:=match s with
 | .FunctionDef _ a _ _ _ _ _ _ _ _=>a
 | _=>{ posonlyargs:=[],args:=[],vararg:=none,kwonlyargs:=[],kw_defaults:=[],kwarg:=none,defaults:=[] }
def Ce (s:Stmt):List Stmt:=match s with
 | .FunctionDef _ _ b _ _ _ _ _ _ _=>b
 | _=>[]
def Ar (s:Stmt):Scope:=match s with
 | .FunctionDef _ _ _ _ _ _ sc _ _ _=>sc
 | _=>{ kind:=.function,names:=[],isGenerator:=false,isCoroutine:=false }
abbrev Da:G9:=fun _ _ _ _ _ _=>False
abbrev E0:XK:=fun _ _ _=>False
theorem Sn {X:Cx}:Ko Da X E0:=fun _ _ _ _ _ _ _ h=>h.elim
structure Fun (K:zAa) (x qual:Str) (st:Stmt) (f:Addr) (fd:zCx):Prop where
 ex:∃ (oc:Value) (od:Option Addr) (kV doc pm:Value) (an:Option Addr) (cdv ct:Value) (osl:Array (Option Value)),
  fd=zAV x qual (Cy st) (Ce st) (Ar st) .none kV doc pm an cdv ct/\K.lookup f=some ⟨oc,od,.func fd,osl⟩/\zBn K cdv qual=true
 kp:zAT K (.ref f)=true
section
variable {P:Program} {w:World} {K:zAa} {mg:Str->Option Value} {base:Heap}
theorem Fun.ok {x qual:Str} {st:Stmt} {f:Addr} {fd:zCx} {N ps:List Str} {k:Nat} {sp:Sp} (F:Fun K x qual st f fd) (S:Aw N ps (Ar st)) (len:∀ vs H Q E,sp vs H Q E->vs.length=ps.length)
  (hbody:∀ (cdv:Value) (A:Around) (outer:List Env) (s:Shared) (H:Hp) (vs:List V) (Q:VK) (E:XK),Room k (A.deeper (envOfC qual (Ar st) s.heap.objs.size f cdv))->sp vs H Q E ->
   ∃ t,PSs (Oe Da P w K mg base N qual (Ar st) f cdv A outer s H E).nox (Ce st) t/\t { nx:=fun _ H'=>Q .non H',rt:=Q } (Gx N vs) H):FnOk P w K mg base Da (k+1) f fd ps sp:=by
 obtain⟨oc,od,kV,doc,pm,an,cdv,ct,osl,rfl,lk,hcd⟩:=F.ex;refine P6 lk hcd S len fun A outer s H vs Q E hr hsp=>?_;obtain⟨t,h,q⟩:=hbody cdv A outer s H vs Q E hr hsp;exact⟨t,h.nox,q⟩
theorem Fun.binds {x qual:Str} {st:Stmt} {f:Addr} {fd:zCx} {ps:List Str} (F:Fun K x qual st f fd)
  (h:∀ (kV doc pm:Value) (an:Option Addr) (cdv ct:Value) (us:List Value),us.length=ps.length->bindArgs (zAV x qual (Cy st) (Ce st) (Ar st) .none kV doc pm an cdv ct) ⟨us,[]⟩=pure (ps.zip us)):Binds K fd ps []:=by
 obtain⟨oc,od,kV,doc,pm,an,cdv,ct,osl,rfl,lk,hcd⟩:=F.ex;exact .all (h kV doc pm an cdv ct)
theorem Zy {x qual:Str} {st:Stmt} {f:Addr} {oc:Value} {od an:Option Addr} {osl:Array (Option Value)} {kV doc pm cdv ct:Value} (l:K.lookup f=some ⟨oc,od,.func (zAV x qual (Cy st) (Ce st) (Ar st) .none kV doc pm an cdv ct),osl⟩)
  (c:zBn K cdv qual=true) (k:zAT K (.ref f)=true):Fun K x qual st f (zAV x qual (Cy st) (Ce st) (Ar st) .none kV doc pm an cdv ct):=⟨⟨oc,od,kV,doc,pm,an,cdv,ct,osl,rfl,l,c⟩,k⟩
end
theorem GD {A:Around} {k:Nat} (hr:Room k A):A.units+1<cLine:=zCc (Nat.add_le_add_left (by decide:1<=64) _) hr.units
theorem L6 {n:Nat} (h:n<=1000):n<sizeLine:=zCc h (by decide)
section
variable {X:Cx}
theorem pv (i:Nat) {x:Str} {pos:Pos} (hN:X.N[i]?=some x:=by rfl) (hv:ID X.env.scope x:=by first | exact Or.inl rfl | exact Or.inr (Or.inl rfl) | exact Or.inr (Or.inr rfl)) (hd:(x==("__debug__" : Str))=false:=by decide)
  (hcd:(x==("__classdict__" : Str))=false:=by decide):PE X (.Name x pos) (Kz i):=EY hN hv hd hcd
end
theorem Dk {A B:Prop} (h:B):if false=true then A else B:=by
 rw[if_neg zAr];exact h
theorem Jr {A B:Prop} (h:A):if true=true then A else B:=by
 rw[if_pos rfl];exact h
theorem G8 {c A B:Prop} [Decidable c] (h1:c->A) (h2:¬ c->B):if c then A else B:=by
 by_cases h:c
 ·rw[if_pos h]
  exact h1 h
 ·rw[if_neg h]
  exact h2 h
def Same (H H':Hp):Prop:=∀ b o,H b=some o->H' b=some o
theorem Same.refl (H:Hp):Same H H:=fun _ _ h=>h
theorem Same.trans {H H1 H2:Hp} (a:Same H H1) (b:Same H1 H2):Same H H2:=fun c o h=>b c o (a c o h)
theorem Same.free {H H':Hp} (e:Same H H') {l:Addr} (h:H' l=Option.none):H l=Option.none:=by
 cases q:H l with
 | none=>rfl
 | some o=>
  rw[e l o q] at h;cases h
theorem Same.seq {K:zAa} {H H':Hp} {a:Addr} {xs:List V} (e:Same H H') (h:SqL K H a xs):SqL K H' a xs:=by
 rcases h with (h | ⟨o,h⟩) | h
 ·exact .inl (.inl (e _ _ h))
 ·exact .inl (.inr ⟨o,e _ _ h⟩)
 ·exact .inr h
section
variable {κ:Type} [DecidableEq κ]
def Gm (kvs:List (κ×V)) (k:κ):Option V:=(kvs.find? fun kv=>decide (kv.1=k)).map (·.2)
def Na (kvs:List (κ×V)) (k:κ) (v:V):List (κ×V):=
 if (kvs.any fun kv=>decide (kv.1=k))=true then kvs.map (fun kv=>if kv.1=k then (kv.1,v) else kv) else kvs++[(k,v)]
theorem Dh {p:κ×V} {r:List (κ×V)} {k:κ} (e:p.1=k):Gm (p::r) k=some p.2:=by simp [Gm,zBM,e]
theorem Dj {p:κ×V} {r:List (κ×V)} {k:κ} (e:¬ p.1=k):Gm (p::r) k=Gm r k:=by simp [Gm,zBM,e]
theorem Lf (k:κ):∀ kvs:List (κ×V),(kvs.any fun kv=>decide (kv.1=k))=(Gm kvs k).isSome
 | []=>rfl
 | p::r=>by
  rw[zCm];by_cases e:p.1=k
  ·simp only [Dh e,decide_eq_true e,Bool.true_or,Option.isSome_some]
  ·rw[Dj e,decide_eq_false e,Bool.false_or]; exact Lf k r
theorem Xd (k j:κ) (y:V):∀ kvs:List (κ×V),Gm (kvs.map fun kv=>if kv.1=k then (kv.1,y) else kv) j=(Gm kvs j).map fun x=>if j=k then y else x
 | []=>rfl
 | p::r=>by
  have ih:=Xd k j y r;rw[zBa];by_cases h:p.1=k
  ·rw[if_pos h]
   by_cases e:p.1=j
   ·rw[Dh (p:=(p.1,y)) e,Dh e,zCs,if_pos (e.symm.trans h)]
   ·rw[Dj (p:=(p.1,y)) e,Dj e,ih]
  ·rw[if_neg h]
   by_cases e:p.1=j
   ·rw[Dh (p:=p) e,Dh e,zCs,if_neg (fun z=>h (e.trans z))]
   ·rw[Dj (p:=p) e,Dj e,ih]
theorem Sz (k j:κ) (y:V):∀ kvs:List (κ×V),Gm kvs k=none->Gm (kvs++[(k,y)]) j=if j=k then some y else Gm kvs j
 | [],_=>by
  by_cases e:k=j
  ·rw[if_pos e.symm]; exact Dh (p:=(k,y)) e
  ·rw[if_neg (fun z=>e z.symm)]; exact Dj (p:=(k,y)) e
 | p::r,hn=>by
  rw[List.cons_append];have hk:¬ p.1=k:=fun z=>by rw[Dh z] at hn; cases hn
  rw[Dj hk] at hn;have ih:=Sz k j y r hn;by_cases e:p.1=j
  ·rw[Dh e,Dh e,if_neg (fun z=>hk (e.trans z))]
  ·rw[Dj e,Dj e,ih]
theorem V0 (kvs:List (κ×V)) (k j:κ) (y:V):Gm (Na kvs k y) j=if j=k then some y else Gm kvs j:=by
 unfold Na;by_cases a:(kvs.any fun kv=>decide (kv.1=k))=true
 ·rw[if_pos a,Xd]
  rw[Lf] at a;by_cases e:j=k
  ·obtain⟨x,hx⟩:=zBx.mp a
   rw[if_pos e,e,hx,zCs,if_pos rfl]
  ·rw[if_neg e]
   cases Gm kvs j with
   | none=>rfl
   | some x=>rw[zCs,if_neg e]
 ·rw[if_neg a]
  refine Sz k j y kvs ?_;rw[Lf] at a;cases q:Gm kvs k with
  | none=>rfl
  | some x=>rw[q] at a; exact (a rfl).elim
theorem Iu (kvs:List (κ×V)) (k:κ) (v:V):(Na kvs k v).length<=kvs.length+1:=by
 unfold Na
 split
 ·rw[zAb]; lia
 ·rw[zAi,zAl,List.length_nil]; lia
theorem RelO.isSome_eq {o:Option V} {u:Option Value} (r:RelO o u):o.isSome=u.isSome:=by
 cases o with
 | none=>cases u with
  | none=>rfl
  | some _=>exact (show False from r).elim
 | some _=>cases u with
  | none=>exact (show False from r).elim
  | some _=>rfl
theorem KV.val {kvs:List (κ×V)} {vs:List (κ×Value)} (r:KV kvs vs) (k:κ):RelO (Gm kvs k) (valueAt vs k):=by
 unfold KV at r
 induction r with
 | nil=>exact True.intro
 | @cons p q ps qs h t ih=>
  obtain⟨h1,h2⟩:=h;by_cases e:p.1=k
  ·have e':q.1=k:=h1.symm.trans e
   have b:valueAt (q::qs) k=some q.2:=by simp [valueAt,zBM,e']
   rw[Dh e,b]; exact h2
  ·have e':¬ q.1=k:=fun z=>e (h1.trans z)
   have b:valueAt (q::qs) k=valueAt qs k:=by simp [valueAt,zBM,e']
   rw[Dj e,b]; exact ih
theorem KV.any {kvs:List (κ×V)} {vs:List (κ×Value)} (r:KV kvs vs) (k:κ):(kvs.any fun kv=>decide (kv.1=k))=vs.any fun kv=>decide (kv.1=k):=by
 unfold KV at r
 induction r with
 | nil=>rfl
 | cons h t ih=>rw[zCm,zCm,ih,h.1]
theorem KV.repl {kvs:List (κ×V)} {vs:List (κ×Value)} (r:KV kvs vs) (k:κ) {y:V} {u:Value} (ry:RelV y u) :
  KV (kvs.map fun kv=>if kv.1=k then (kv.1,y) else kv) (vs.map fun kv=>if kv.1=k then (kv.1,u) else kv):=by
 unfold KV at r ⊢
 induction r with
 | nil=>exact .nil
 | @cons p q ps qs h t ih=>
  rw[zBa,zBa];refine .cons ?_ ih;obtain⟨h1,h2⟩:=h;by_cases e:p.1=k
  ·rw[if_pos e,if_pos (h1.symm.trans e)]; exact⟨h1,ry⟩
  ·rw[if_neg e,if_neg (fun z=>e (h1.trans z))]; exact⟨h1,h2⟩
theorem KV.put {kvs:List (κ×V)} {vs:List (κ×Value)} (r:KV kvs vs) (k:κ) {y:V} {u:Value} (ry:RelV y u):KV (Na kvs k y) (stored vs k u):=by
 unfold Na stored;rw[r.any k];by_cases e:(vs.any fun kv=>decide (kv.1=k))=true
 ·rw[if_pos e,if_pos e]; exact r.repl k ry
 ·rw[if_neg e,if_neg e]; exact Paired.snoc r ⟨rfl,ry⟩
theorem KV.length {kvs:List (κ×V)} {vs:List (κ×Value)} (r:KV kvs vs):kvs.length=vs.length:=Paired.length r
end
theorem P4 {P:Program} {w:World} {k:Ff} {u:Value} (r:RelV (kV k) u):(Dg P w).is k u=true:=by
 cases k with
 | inl i=>obtain⟨t,e⟩:=(show ∃ t,u=Value.int i t from r); subst e; exact Yh P w i t
 | inr x=>obtain⟨t,e⟩:=(show ∃ t,u=Value.str x t from r); subst e; exact Vs P w x t
theorem Sd {P:Program} {w:World}:∀ {ks:List Ff} {us:List Value},Vals (ks.map kV) us->ItemsAre (Dg P w) ks us
 | [],_,r=>by rw[List.map_nil] at r; cases r; exact .nil
 | k::ks,_,r=>by
  rw[zBa] at r;cases r with
  | cons h t=>exact .cons (P4 h) (Sd t)
abbrev KT (H:Hp):List (List Ff×V)->List (List Ff×Addr×Value)->Prop:=Paired fun p q=>p.1=q.1/\H q.2.1=some (.tup (p.1.map kV))/\RelV p.2 q.2.2
theorem KT.val {H:Hp} {kvs:List (List Ff×V)} {xs:List (List Ff×Addr×Value)} (r:KT H kvs xs) (k:List Ff):RelO (Gm kvs k) ((atKey xs k).map (·.2)):=by
 induction r with
 | nil=>exact True.intro
 | @cons p q ps qs h t ih=>
  obtain⟨h1,_,h2⟩:=h;by_cases e:p.1=k
  ·have e':q.1=k:=h1.symm.trans e
   have b:atKey (q::qs) k=some q.2:=by simp [atKey,zBM,e']
   rw[Dh e,b]; exact h2
  ·have e':¬ q.1=k:=fun z=>e (h1.trans z)
   have b:atKey (q::qs) k=atKey qs k:=by simp [atKey,zBM,e']
   rw[Dj e,b]; exact ih
theorem KT.repl {H:Hp} {kvs:List (List Ff×V)} {xs:List (List Ff×Addr×Value)} (r:KT H kvs xs) (k:List Ff) {y:V} {u:Value} (ry:RelV y u) :
  KT H (kvs.map fun kv=>if kv.1=k then (kv.1,y) else kv) (xs.map (putAt k u)):=by
 induction r with
 | nil=>exact .nil
 | @cons p q ps qs h t ih=>
  rw[zBa,zBa];refine .cons ?_ ih;obtain⟨h1,h2,h3⟩:=h;unfold putAt;by_cases e:p.1=k
  ·rw[if_pos e,if_pos (h1.symm.trans e)]; exact⟨h1,h2,ry⟩
  ·rw[if_neg e,if_neg (fun z=>e (h1.trans z))]; exact⟨h1,h2,h3⟩
theorem KT.put {H:Hp} {kvs:List (List Ff×V)} {xs:List (List Ff×Addr×Value)} (r:KT H kvs xs) (k:List Ff) {b:Addr} {y:V} {u:Value} (hb:H b=some (.tup (k.map kV))) (ry:RelV y u) :
  KT H (Na kvs k y) (storedH xs k b u):=by
 have e:(kvs.any fun kv=>decide (kv.1=k))=(atKey xs k).isSome:=by
  rw[Lf,(r.val k).isSome_eq,Option.isSome_map]
 unfold Na storedH;rw[e];by_cases q:(atKey xs k).isSome=true
 ·rw[if_pos q,if_pos q]; exact r.repl k ry
 ·rw[if_neg q,if_neg q]; exact Paired.snoc r ⟨rfl,hb,ry⟩
theorem KT.keeps {H H':Hp} {kvs:List (List Ff×V)} {xs:List (List Ff×Addr×Value)} (r:KT H kvs xs) (ht:∀ b ys,H b=some (.tup ys)->H' b=some (.tup ys)):KT H' kvs xs:=
 Paired.mapP r fun _ _ z=>⟨z.1,ht _ _ z.2.1,z.2.2⟩
section
variable {P:Program} {w:World} {H:Hp} {h:Heap} {a:Addr}
theorem CM {u:HO} (ok:HOk P w H h) (e:Rd H a u):ObjOk P w H h a u:=e.ok ok
theorem CK {kvs:List (Ff×V)} (ok:HOk P w H h) (e:Rd H a (.dK kvs)):kvs.length<=sizeLine/\(a==sysModules)=false/\∃ vs,KV kvs vs/\h.DictOf (Dg P w) a vs:=
 show ObjOk P w H h a (.dK kvs) from CM ok e
theorem GY {kvs:List (Ff×V)} (ok:HOk P w H h) (e:H a=some (.dK kvs)):kvs.length<=sizeLine/\(a==sysModules)=false/\∃ vs,KV kvs vs/\h.DictOf (Dg P w) a vs:=CK ok (.inl e)
theorem Zs {ks:List Ff} (ok:HOk P w H h) (e:H a=some (.tup (ks.map kV))):(tupleKind (Dg P w)).is h ks a:=by
 obtain⟨_,its,r,o,h1,h2,n,h3⟩:=(show ObjOk P w H h a (.tup (ks.map kV)) from ok a _ e);exact⟨o,its.toArray,n,h1,h2,h3,by simpa using Sd r⟩
theorem BS {kvs:List (List Ff×V)} (ok:HOk P w H h) (e:Rd H a (.dT kvs)):kvs.length<=sizeLine/\(a==sysModules)=false /\
  ∃ xs,KT H kvs xs/\h.DictOfH (tupleKind (Dg P w)) a xs:=by
 obtain⟨z,y,xs,r,o,es,ep,h1,h2,h3,h4,h5⟩:=(show ObjOk P w H h a (.dT kvs) from CM ok e);refine⟨z,y,xs,r,o,es,ep,h1,h2,h3,h4,fun x hx=>?_,h5⟩;have all:∀ {l:List (List Ff×V)} {m:List (List Ff×Addr×Value)},KT H l m->∀ x∈m,(tupleKind (Dg P w)).is h x.1 x.2.1:=by
  intro l m q
  induction q with
  | nil=>intro x hx; exact nomatch hx
  | @cons p q ps qs hq t ih=>
   intro x hx;rcases zAp.mp hx with e | hx
   ·subst e
    exact Zs ok (by rw[<- hq.1]; exact hq.2.1)
   ·exact ih x hx
 exact all r x hx
theorem GO {kvs:List (List Ff×V)} (ok:HOk P w H h) (e:H a=some (.dT kvs)):kvs.length<=sizeLine/\(a==sysModules)=false /\
  ∃ xs,KT H kvs xs/\h.DictOfH (tupleKind (Dg P w)) a xs:=BS ok (.inl e)
end
def DGet (H:Hp) (a:Addr) (y:V) (r:Option V):Prop:=
 (∃ kvs k,Rd H a (.dK kvs)/\y=kV k/\r=Gm kvs k)\/∃ kvs k b,Rd H a (.dT kvs)/\y = .ref b/\H b=some (.tup (k.map kV))/\r=Gm kvs k
def DPut (H:Hp) (a:Addr) (y v:V) (H':Hp):Prop:=
 (∃ kvs k,H a=some (.dK kvs)/\y=kV k/\kvs.length<sizeLine/\H'=upd H a (.dK (Na kvs k v))) \/
 ∃ kvs k b,H a=some (.dT kvs)/\y = .ref b/\H b=some (.tup (k.map kV))/\kvs.length<sizeLine/\H'=upd H a (.dT (Na kvs k v))
theorem DGet.k {H:Hp} {a:Addr} {kvs:List (Ff×V)} {k:Ff} (e:H a=some (.dK kvs)):DGet H a (kV k) (Gm kvs k):=.inl ⟨kvs,k,.inl e,rfl,rfl⟩
theorem DPut.k {H:Hp} {a:Addr} {kvs:List (Ff×V)} {k:Ff} {v:V} (e:H a=some (.dK kvs)) (hl:kvs.length<sizeLine):DPut H a (kV k) v (upd H a (.dK (Na kvs k v))):=.inl ⟨kvs,k,e,rfl,hl,rfl⟩
section
variable {X:Cx} {pins:List (Addr×Obj)} {σ:St} {H:Hp} {s:Shared} {a:Addr} {y v:V} {u r:Value} {o:Option V} {A:Around} {E:Value->Shared->Prop}
theorem Inv.big (I:Inv X pins σ H s):sysModules<s.heap.objs.size:=by
 have h:zCy<s.heap.objs.size:=(I.mod.glob.keeps I.bk).lt;exact Nat.lt_trans (by decide) h
theorem IF {Q:Value->Shared->Prop} (hu:A.units+1<cLine) (I:Inv X pins σ H s) (g:DGet H a y o) (ry:RelV y u) (h:∀ s',Inv X pins σ H s'->Q (.bool o.isSome) s') :
  wpAny (model X.prog X.w) A (compareOp .In u (.ref a)) Q E s:=by
 rcases g with ⟨kvs,k,e,ey,l⟩ | ⟨kvs,k,b,e,ey,eb,l⟩
 ·subst ey
  obtain⟨z,hd,vs,rel,dd⟩:=CK I.hok e;refine wpAny_in_of (P4 ry) hd dd.mapOf ?_;rw[<- (rel.val k).isSome_eq,<- l];exact h _ (I.tok _)
 ·subst ey
  cases (show u=Value.ref b from ry)
  obtain⟨z,hd,xs,rel,dd⟩:=BS I.hok e;refine wpAny_in_heap (tupleKind_room_in1 hu) (Zs I.hok eb) hd dd ?_;have q:=(rel.val k).isSome_eq;rw[Option.isSome_map] at q;rw[<- q,<- l];exact h _ (I.tok _)
theorem F9 {h':Heap} {t':Nat} {ob:HO} (I:Inv X pins σ H s) (mu:FZ (H a)) (hs:zBc a s.heap h') (he:∃ q,h'.get? a=some q) (new:ObjOk X.prog X.w (upd H a ob) h' a ob) :
  Inv X pins σ (upd H a ob) { s with heap:=h',toks:=t' }:=
 I.write (x:=a) (e:=a) mu (.inl rfl) (fun b q hb z=>(hs.2 b hb).trans z) he new
theorem DR {P:Program} {w:World} {H':Hp} {h':Heap} {kvs:List (Ff×V)} {vs:List (Ff×Value)} (z:kvs.length<=sizeLine) (hd:(a==sysModules)=false) (rel:KV kvs vs) (dd:h'.DictOf (Dg P w) a vs) :
  ObjOk P w H' h' a (.dK kvs):=⟨z,hd,vs,rel,dd⟩
theorem K3 {H':Hp} {Q:Unit->Shared->Prop} (hu:A.units+1<cLine) (I:Inv X pins σ H s) (g:DPut H a y v H') (ry:RelV y u) (rv:RelV v r) (h:∀ s',Inv X pins σ H' s'->Q () s') :
  wpAny (model X.prog X.w) A (setItem (.ref a) u r) Q E s:=by
 rcases g with ⟨kvs,k,e,ey,l,eH⟩ | ⟨kvs,k,b,e,ey,eb,l,eH⟩
 ·subst ey eH
  obtain⟨z,hd,vs,rel,dd⟩:=GY I.hok e;have hz:vs.length<=sizeLine:=by rw[<- rel.length]; exact z
  have hl:(Na kvs k v).length<=sizeLine:=by have:=Iu kvs k v; lia
  refine wpAny_setItem_pairs (hsz:=hz) (P4 ry) dd fun h' dd' hs=>h _ ?_;have he:∃ q,h'.get? a=some q:=let ⟨q,_,_,hq,_⟩:=dd'; ⟨q,hq⟩
  exact F9 I (by rw[e]; exact True.intro) hs he (DR hl hd (rel.put k rv) dd')
 ·subst ey eH
  cases (show u=Value.ref b from ry)
  obtain⟨z,hd,xs,rel,dd⟩:=GO I.hok e;have hz:xs.length<=sizeLine:=by rw[<- Paired.length rel]; exact z
  have hl:(Na kvs k v).length<=sizeLine:=by have:=Iu kvs k v; lia
  refine wpAny_setItem_heap (hsz:=hz) (tupleKind_room_in1 hu) (Zs I.hok eb) dd fun h' dd' hs=>h _ ?_;obtain⟨q,es,ep,hq,h2,h3,h4,_,h5⟩:=dd';refine F9 I (by rw[e]; exact True.intro) hs ⟨q,hq⟩ ⟨hl,hd,_,(rel.put k eb rv).keeps fun c ys ec=>?_,q,es,ep,hq,h2,h3,h4,h5⟩;rw[Aq (Ii ec e (fun z=>nomatch z))];exact ec
end
section
variable {X:Cx} {pins:List (Addr×Obj)} {σ:St} {H:Hp} {s:Shared} {a:Addr} {kvs:List (Ff×V)} {k:Ff} {u:Value} {A:Around} {E:Value->Shared->Prop}
end
def HR (ty td:TE):TE:=fun σ H Q=>ty σ H fun y H1=>td σ H1 fun x H2=>∃ a o,x = .ref a/\DGet H2 a y o/\Q (.bl o.isSome) H2
def GM (td ty tv:TE):TS:=fun D σ H=>tv σ H fun v H1=>td σ H1 fun x H2=>ty σ H2 fun y H3=>∃ a H4,x = .ref a/\DPut H3 a y v H4/\D.nx σ H4
section
variable {X:Cx} {o i e value:Expr} {pos pos' tpos:Pos} {td ty tv:TE}
theorem DW (hu:X.A.units+1<cLine) (hi:PE X i ty) (ho:PE X o td):PC X .In i o (HR ty td):=by
 intro pins s σ H Q I h;refine Ca (hi pins s σ H _ I h) fun iv s1 ⟨y,H1,I1,ry,q1⟩=>Ca (ho pins s1 σ H1 _ I1 q1) fun u s2 ⟨x,H2,I2,rx,a,ov,ex,g,q2⟩=>?_;subst ex;obtain rfl:u=Value.ref a:=rx;exact IF hu I2 g ry fun s3 I3=>⟨.bl ov.isSome,H2,I3,rfl,q2⟩
theorem BF (hu:X.A.units+1<cLine) (ho:PE X o td) (hi:PE X i ty) (hv:PE X value tv) (hs:swapsWith value (some (.Subscript o i pos')) pos.line X.env=pure false) :
  PS X (.Assign [.Subscript o i pos'] value pos) (GM td ty tv):=by
 intro pins s σ H D I h;refine wpAny_Assign_Subscript (Ca (hv pins s σ H _ I h) fun r s1 ⟨v,H1,I1,rv,q1⟩=>Ca (ho pins s1 σ H1 _ I1 q1) fun u s2 ⟨x,H2,I2,rx,q2⟩=>Ca (hi pins s2 σ H2 _ I2 q2) fun iv s3 ⟨y,H3,I3,ry,a,H4,ex,g,q3⟩=>?_) hs;subst ex;obtain rfl:u=Value.ref a:=rx;exact K3 hu I3 g ry rv fun s4 I4=>⟨σ,H4,I4,q3⟩
end
theorem W7 {P:Program} {w:World} {H:Hp} (h:Heap) (hb:sysModules<h.objs.size):ObjOk P w H (h.push { cls:=.type "dict",data:=.dict #[] }) h.objs.size (.dK []):=
 ⟨zAk _,beq_eq_false_iff_ne.mpr (Ne.symm (zAm hb)),[],.nil,Heap.DictOf.new h⟩
theorem T5 {P:Program} {w:World} {H:Hp} (h:Heap) (hb:sysModules<h.objs.size):ObjOk P w H (h.push { cls:=.type "dict",data:=.dict #[] }) h.objs.size (.dT []):=
 ⟨zAk _,beq_eq_false_iff_ne.mpr (Ne.symm (zAm hb)),[],.nil,_,#[],0,zAt _ rfl,⟨rfl,rfl,rfl⟩,rfl,rfl,zCf⟩
def DY:TE:=fun _ H Q=>∀ p,H p=none->Q (.ref p) (upd H p (.dK []))
def FH:TE:=fun _ H Q=>∀ p,H p=none->Q (.ref p) (upd H p (.dT []))
section
variable {X:Cx} {pos:Pos}
theorem W0:PE X (.Dict [] [] pos) DY:=fun pins s σ H Q I h=>
 wpAny_Dict_empty ⟨.ref s.heap.objs.size,_,I.laid (a:=s.heap.objs.size) (o:=.dK []) (t':=s.toks) (fun _ _ q=>zAc _ q) (zAf _) (W7 s.heap I.big),rfl,h _ (I.hok.fresh (zAf _))⟩
theorem Q4:PE X (.Dict [] [] pos) FH:=fun pins s σ H Q I h=>
 wpAny_Dict_empty ⟨.ref s.heap.objs.size,_,I.laid (a:=s.heap.objs.size) (o:=.dT []) (t':=s.toks) (fun _ _ q=>zAc _ q) (zAf _) (T5 s.heap I.big),rfl,h _ (I.hok.fresh (zAf _))⟩
end
section
variable {X:Cx} {pins:List (Addr×Obj)} {σ:St} {H:Hp} {s:Shared} {a:Addr} {y d:V} {u r:Value} {o:Option V} {A:Around} {E:Value->Shared->Prop}
end
section
variable {X:Cx} {o e f:Expr} {apos cpos:Pos} {td ty tx:TE}
end
section
variable {X:Cx} {pins:List (Addr×Obj)} {σ:St} {H:Hp} {s:Shared} {a:Addr} {kvs:List (Ff×V)} {A:Around} {E:Value->Shared->Prop}
end
section
variable {X:Cx} {pins:List (Addr×Obj)} {σ:St} {H:Hp} {s:Shared} {a:Addr} {y:V} {u:Value} {A:Around} {E:Value->Shared->Prop}
end
section
variable {X:Cx}
end
section
variable {κ:Type} [DecidableEq κ]
end
def F1 (cells:List (Str×Addr)):List (Str×NameKind)->List (Str×Addr)->List (Str×Addr)
 | [],cs=>cs
 | (n,k)::r,cs=>F1 cells r (if k==NameKind.free then (match cells.lookup n with | some a=>(n,a)::cs | none=>cs) else cs)
theorem Vr {env:Env}:∀ (names:List (Str×NameKind)) (cs:List (Str×Addr)),(∀ y∈names,y.2 = .free->∃ c,env.cells.lookup y.1=some c) ->
  (forIn names cs fun (x:Str×NameKind) (r:List (Str×Addr))=>if (x.2==NameKind.free)=true then (do let a <- cellOf env x.1; pure (ForInStep.yield ((x.1,a)::r))) else (pure (ForInStep.yield r):Sem (ForInStep (List (Str×Addr)))))
   = (pure (F1 env.cells names cs):Sem (List (Str×Addr)))
 | [],cs,_=>rfl
 | (n,k)::r,cs,h=>by
  have ih:=Vr (env:=env) r;rw[List.forIn_cons];unfold F1;cases hk:(k==NameKind.free) with
  | false=>
   simp only [zAW,if_false];show (forIn r cs _:Sem _)=_;exact ih cs fun y hy=>h y (zAs _ hy)
  | true=>
   obtain⟨c,hc⟩:=h (n,k) zAo (by simpa using hk);have hc':env.cells.lookup n=some c:=hc;have e:cellOf env n=pure c:=by unfold cellOf; rw[hc']
   simp only [if_true,e,hc'];show (forIn r ((n,c)::cs) _:Sem _)=_;exact ih _ fun y hy=>h y (zAs _ hy)
theorem V6 {scope:Scope} {env:Env} (h:∀ y∈scope.names,y.2 = .free->∃ c,env.cells.lookup y.1=some c):closureFor scope env=pure (F1 env.cells scope.names []):=by
 unfold closureFor;have q:=Vr (env:=env) scope.names [] h;refine Eq.trans ?_ (congrArg (fun z:Sem (List (Str×Addr))=>z >>= fun cs=>pure cs) q);rfl
set_option tactic.hygienic true in
theorem E2 {cells:List (Str×Addr)}:∀ (names:List (Str×NameKind)) (cs:List (Str×Addr)),(∀ p∈cs,cells.lookup p.1=some p.2)->∀ p∈F1 cells names cs,cells.lookup p.1=some p.2
 | [],cs,h,p,hp=>h p hp
 | (n,k)::r,cs,h,p,hp=>by
  unfold F1 at hp;refine E2 r _ (fun q hq=>?_) p hp
  split at hq
  ·split at hq
   ·rename_i a e
    rcases zAp.mp hq with rfl | hq
    ·exact e
    ·exact h q hq
   ·exact h q hq
  ·exact h q hq
theorem Hu {cells:List (Str×Addr)} {names:List (Str×NameKind)} {x:Str} {c:Addr} (e:(F1 cells names []).lookup x=some c):cells.lookup x=some c:=
 E2 names [] (fun _ z=>nomatch z) (x,c) (PySem.mem_of_lookup e)
theorem Sw {cells:List (Str×Addr)}:∀ (names:List (Str×NameKind)) (cs:List (Str×Addr)) (p:Str×Addr),p∈cs->p∈F1 cells names cs
 | [],cs,p,hp=>hp
 | (n,k)::r,cs,p,hp=>by
  unfold F1;refine Sw r _ p ?_
  split
  ·split
   ·exact zAs _ hp
   ·exact hp
  ·exact hp
theorem Tw {cells:List (Str×Addr)} {x:Str} {c:Addr} (hc:cells.lookup x=some c):∀ (names:List (Str×NameKind)) (cs:List (Str×Addr)),(x,NameKind.free)∈names->(x,c)∈F1 cells names cs
 | [],_,h=>nomatch h
 | (n,k)::r,cs,h=>by
  unfold F1;rcases zAp.mp h with e | h
  ·cases e
   refine Sw r _ _ ?_;rw[hc];simp
  ·exact Tw hc r _ h
theorem Dy {x:Str} {c:Addr}:∀ {l:List (Str×Addr)},(x,c)∈l->∃ d,l.lookup x=some d
 | [],h=>nomatch h
 | (y,d)::r,h=>by
  rw[zBC];cases e:(x==y) with
  | true=>exact⟨d,rfl⟩
  | false=>
   rcases zAp.mp h with z | z
   ·cases z
    simp at e
   ·exact Dy z
theorem Hq {env:Env}:∀ {names:List (Str×NameKind)} {x:Str} {k:NameKind},
  (names.map fun (n,k)=>if (k==NameKind.free&&env.scope.kind == .function&&env.kindOf n==some .cell) then (n,NameKind.cell) else (n,k)).lookup x=some k ->
   names.lookup x=some k\/(k = .cell/\names.lookup x=some .free)
 | [],_,_,h=>by simp at h
 | (n,k0)::r,x,k,h=>by
  have ih:=@Hq env r x k;rw[zBa] at h;rw[zBC];by_cases c:(k0==NameKind.free&&env.scope.kind == .function&&env.kindOf n==some .cell)=true
  ·have h':=h
   simp only [c,if_true] at h';rw[zBC] at h';cases e:(x==n) with
   | true=>
    rw[e] at h';have c1:k0 = .free:=by
     simp only [zBt] at c
     simpa using c.1.1
    refine .inr ⟨(Option.some.inj h').symm,?_⟩;rw[c1]
   | false=>
    rw[e] at h';exact ih h'
  ·have h':=h
   simp only [c,zAW,if_false] at h';rw[zBC] at h';cases e:(x==n) with
   | true=>
    rw[e] at h';exact .inl h'
   | false=>
    rw[e] at h';exact ih h'
theorem Lc {env:Env}:∀ {names:List (Str×NameKind)} {x:Str},names.lookup x=some .free ->
  (names.map fun (n,k)=>if (k==NameKind.free&&env.scope.kind == .function&&env.kindOf n==some .cell) then (n,NameKind.cell) else (n,k)).lookup x=some .cell \/
  (names.map fun (n,k)=>if (k==NameKind.free&&env.scope.kind == .function&&env.kindOf n==some .cell) then (n,NameKind.cell) else (n,k)).lookup x=some .free
 | [],_,h=>by simp at h
 | (n,k0)::r,x,h=>by
  have ih:=@Lc env r x;rw[zBa];rw[zBC] at h;by_cases c:(k0==NameKind.free&&env.scope.kind == .function&&env.kindOf n==some .cell)=true
  ·simp only [c,if_true,zBC]
   cases e:(x==n) with
   | true=>exact .inl rfl
   | false=>
    rw[e] at h;exact ih h
  ·simp only [c,zAW,if_false,zBC]
   cases e:(x==n) with
   | true=>
    rw[e] at h;exact .inr h
   | false=>
    rw[e] at h;exact ih h
def Y0 (sc scope:Scope):Bool:=
 scope.kind == .function&&scope.names.all fun y=>y.2 != .cell&&(y.2 != .local||scope.names.lookup y.1==some .local)&&(y.2 != .free||(sc.names.lookup y.1==some .cell||sc.names.lookup y.1==some .free))
structure CompScope (sc scope:Scope):Prop where
 kind:scope.kind = .function
 cell:∀ y∈scope.names,y.2 ≠ .cell
 own:∀ y∈scope.names,y.2 = .local->scope.names.lookup y.1=some .local
 free:∀ y∈scope.names,y.2 = .free->sc.names.lookup y.1=some .cell\/sc.names.lookup y.1=some .free
theorem CompScope.of {sc scope:Scope} (h:Y0 sc scope=true):CompScope sc scope:=by
 unfold Y0 at h;rw[zBt,zCq] at h;obtain⟨h1,h2⟩:=h;have h3:∀ y∈scope.names,(y.2 ≠ .cell/\(y.2 ≠ .local\/scope.names.lookup y.1=some .local))/\(y.2 ≠ .free\/(sc.names.lookup y.1=some .cell\/sc.names.lookup y.1=some .free)):=fun y hy=>by
  have q:=h2 y hy
  simpa [zBt,Bool.or_eq_true] using q
 refine⟨by simpa using h1,fun y hy=>(h3 y hy).1.1,fun y hy e=>?_,fun y hy e=>?_⟩
 ·exact (h3 y hy).1.2.resolve_left fun n=>n e
 ·exact (h3 y hy).2.resolve_left fun n=>n e
def Vm (X:Cx) (NC:List Str) (scope:Scope) (s3:Shared) (H3:Hp) (fp:List Addr):Cx:=
 { X with N:=NC,s₀ := s3,H₀ := H3,env:=compEnvC scope (F1 X.env.cells scope.names []) s3.heap.objs.size X.env,outer:=X.stack,ex:=fp,fn:=fun _=>false,pn:=[],xe:=fun _ _=>False }
def M3 (own:Nat) (ix:List Nat) (σ:St):St:=zAQ own none++ix.map fun j=>(σ[j]?).getD none
def Caps (X:Cx) (scope:Scope):List Str->List Nat->Prop
 | [],[]=>True
 | x::cs,j::js=>(X.N[j]?=some x/\(X.env.kindOf x=some .cell\/X.env.kindOf x=some .free)/\scope.names.lookup x=some .free)/\Caps X scope cs js
 | _,_=>False
theorem Caps.len {X:Cx} {scope:Scope}:∀ {cs:List Str} {js:List Nat},Caps X scope cs js->cs.length=js.length
 | [],[],_=>rfl
 | _::_,_::_,h=>by rw[zAl,zAl,Caps.len h.2]
 | [],_::_,h=>h.elim
 | _::_,[],h=>h.elim
theorem Caps.at {X:Cx} {scope:Scope}:∀ {cs:List Str} {js:List Nat} {i:Nat} {x:Str},Caps X scope cs js->cs[i]?=some x ->
  ∃ j,js[i]?=some j/\X.N[j]?=some x/\(X.env.kindOf x=some .cell\/X.env.kindOf x=some .free)/\scope.names.lookup x=some .free
 | [],[],_,_,_,e=>by simp at e
 | x::_,j::_,0,_,h,e=>by simp at e; subst e; exact⟨j,rfl,h.1⟩
 | _::_,_::_,i+1,_,h,e=>by
  obtain⟨j,e1,r⟩:=Caps.at (i:=i) h.2 (by simpa using e);exact⟨j,by simpa using e1,r⟩
 | [],_::_,_,_,h,_=>h.elim
 | _::_,[],_,_,h,_=>h.elim
def GN:TT:=fun _ H Q=>Q true H
def GF (Y:Cx) (ifs:List Expr) (t:TT):Prop:=
 ∀ (pins:List (Addr×Obj)) (s:Shared) (σ:St) (H:Hp) (Q:Bool->Hp->Prop),Inv Y pins σ H s->t σ H Q ->
  wpAny (model Y.prog Y.w) Y.A (forIn ifs true fun c r=>if r=true then do let ok <- isTrue c Y.env (eval c Y.env); pure (ForInStep.yield ok) else pure (ForInStep.yield r)) (TP Y pins σ Q) Y.xe s
theorem By {Y:Cx}:GF Y [] GN:=fun _ _ _ H _ I h=>wpAny_tests_nil ⟨H,I,h⟩
theorem Ef {Y:Cx} {c:Expr} {t:TT} (h:PT Y c t):GF Y [c] t:=fun pins s σ H Q I q=>wpAny_tests_one (h pins s σ H Q I q)
def Sk (g:TG) (tc:TT) (te:TE) (own:Nat) (ix:List Nat) (σ:St) (J:It) (p:Addr) (H1:Hp) (QQ:Hp->Prop):Prop:=
 ∃ W:Nat->Nat->List V->St->Hp->Prop,(∃ m,W 0 m [] (M3 own ix σ) (upd H1 p (.lst [])))/\∀ i m ys σ2 H2,W i m ys σ2 H2->H2 p=some (.lst ys) /\
  ((J.stop i H2/\QQ H2)\/(J.go i H2/\ys.length<sizeLine/\∀ x H3,J.yld i H2 x H3->∃ N:List V->St->Hp->Prop,(∀ ys' σ' H',N ys' σ' H'->∃ m',m'<m/\W (i+1) m' ys' σ' H') /\
   g x σ2 H3 fun σ4 H4=>tc σ4 H4 fun b H5=>if b=true then te σ4 H5 fun y H6=>H6 p=some (.lst ys)/\N (ys++[y]) σ4 (upd H6 p (.lst (ys++[y]))) else N ys σ4 H5))
def CD (wi:TI) (g:TG) (tc:TT) (te:TE) (own:Nat) (ix:List Nat):TE:=fun σ H Q=>wi σ H fun J H1=>∀ p,H1 p=none->Sk g tc te own ix σ J p H1 (Q (.ref p))
theorem O3 {prog:Program} {w:World} {A:Around} {R:Result->Shared->Prop} {s:Shared} {elt target iter:Expr} {ifs:List Expr} {scope:Scope} {pos:Pos} {it acc:Value} {env:Env} (I:Nat->Shared->Prop)
  (turn:∀ n s,I n s->wpAny (model prog w) A (pyNext it) (fun r s₁ => (r=none/\R (.ok .next) s₁)\/∃ v,r=some v /\
   wpAny (model prog w) A (letOwnedTupleGo target it v) (fun _ s₂ => wpAny (model prog w) A (assign target env v) (fun _ s₃ =>
    wpAny (model prog w) A (forIn ifs true fun c r=>if r=true then do let ok <- isTrue c env (eval c env); pure (ForInStep.yield ok) else pure (ForInStep.yield r)) (fun ok s₄ =>
     (ok=true/\wpAny (model prog w) A (eval elt env) (fun x s₅ => wpAny (model prog w) A (call (.builtin "list.append") [acc,x]) (fun _ s₆ => ∃ m,m<n/\I m s₆) (fun _ _=>False) s₅) (fun _ _=>False) s₄) \/
     (ok=false/\∃ m,m<n/\I m s₄)) (fun _ _=>False) s₃) (fun _ _=>False) s₂) (fun _ _=>False) s₁) (fun _ _=>False) s)
  (n:Nat) (h:I n s):codeAny (model prog w) A (.compLoop (.ListComp elt [⟨target,iter,ifs,0⟩] scope pos) 0 it acc env) R s:=by
 refine codeAny_loop rfl I (fun n s hI=>?_) n h;show wpAny _ A ((compTurn (.ListComp elt [⟨target,iter,ifs,0⟩] scope pos) 0 it acc env).onRaise (fun x=>do noteFrame x env; theTreesLotGoes x)) _ _ s;refine wpAny_noted ?_;rw[compTurn_list];have no:∀ (e:Value) (s':Shared),False->notedBy (model prog w) A env (fun e s'=>R (.error e) s') e s':=fun _ _ f=>f.elim;refine zCt (wpAny_standAt (zCt (wpAny_mono (turn n s hI) (fun r s₁ h₁ => ?_) no)));rcases h₁ with ⟨rfl,h₁⟩ | ⟨v,rfl,h₁⟩
 ·exact zCu h₁
 refine zCt (wpAny_mono h₁ (fun _ s₂ h₂ => ?_) no);refine zCt (wpAny_mono h₂ (fun _ s₃ h₃ => ?_) no);refine zCt (wpAny_mono h₃ (fun ok s₄ h₄ => ?_) no);rcases h₄ with ⟨rfl,h₄⟩ | ⟨rfl,h₄⟩
 ·refine zCt (zCt (wpAny_mono h₄ (fun x s₅ h₅ => ?_) no))
  exact zCt (wpAny_mono h₅ (fun _ s₆ h₆ => zCu (zCu ⟨rfl,h₆⟩)) no)
 ·exact zCu ⟨rfl,h₄⟩
section
variable {X:Cx} {pins:List (Addr×Obj)} {σ:St} {H H':Hp} {s s':Shared}
theorem Vv {NC own cs:List Str} {ix:List Nat} {scope:Scope} {fp:List Addr} {h4:Heap} {t4:Nat} (I:Inv X pins σ H s) (S:CompScope X.env.scope scope) (hN:NC=own++cs) (hc:Caps X scope cs ix)
  (hf:∀ b∈fp,Iy X pins H b) (hl:∀ b∈fp,b<s.heap.objs.size) (hns:h4.Ns s.heap.objs.size fun _=>none) (hk:∀ b o,s.heap.get? b=some o->h4.get? b=some o) :
  Inv (Vm X NC scope s H fp) [] (M3 own.length ix σ) H { s with heap:=h4,toks:=t4 }:=by
 have cs_has:∀ y∈scope.names,y.2 = .free->∃ c,X.env.cells.lookup y.1=some c:=fun y hy e=>I.ok.has y.1 (S.free y hy e);have len:=hc.len;refine⟨⟨I.ok.mod,S.kind,I.ok.glob,I.ok.blt,zAf _,fun x y c e1 e2=>I.ok.inj x y c (Hu e1) (Hu e2),fun x hx=>?_,fun _ _ z=>(nomatch z),I.ok.hd,I.ok.frames,.inl rfl,fun b hb=>⟨zAm (hl b hb),fun x c e=>(hf b hb).2.2.2.2.1 x c (Hu e)⟩,
   I.bs,zAA I.ok.bsz I.sz,fun b o e hb=>?_,fun b hb z=>?_,I.stack,I.stkFree⟩,rfl,I.bare,Un.kept hk,⟨_,hns,fun i x v e1 e2 e3=>?_⟩,fun x c e=>?_,I.hok.fresh (zAf _),fun x c e=>I.freeC x c (Hu e),fun p hp=>?_,I.hok.kept hk,?_⟩
 ·-- a cell for each caught name
  have hx':(relabel scope X.env).names.lookup x=some .cell\/(relabel scope X.env).names.lookup x=some .free:=hx;have q:scope.names.lookup x=some .free:=by
   rcases hx' with h | h
   ·rcases Hq h with h | ⟨_,h⟩
    ·exact absurd rfl (S.cell _ (PySem.mem_of_lookup h))
    ·exact h
   ·rcases Hq h with h | ⟨z,_⟩
    ·exact h
    ·cases z
  obtain⟨c,hc'⟩:=cs_has (x,.free) (PySem.mem_of_lookup q) rfl;exact Dy (Tw hc' scope.names [] (PySem.mem_of_lookup q))
 ·rcases (hf b hb).2.2.2.1 with z | z
  ·exact I.ok.noex b o e z
  ·exact absurd (zAq (zAh e) (zAA I.ok.bsz z)) (zBk _)
 ·rcases zAp.mp (I.stkSub b z) with z | z
  ·exact (hf b hb).2.1 z
  ·exact (hf b hb).2.2.1 z
 ·-- the caught names' values
  have e1':(own++cs)[i]?=some x:=hN▸e1;have hi:own.length<=i:=by
   by_cases hi:own.length<=i
   ·exact hi
   ·unfold M3 at e2
    rw[zBZ (by rw[zBD]; omega),List.getElem?_replicate,if_pos (by omega)] at e2;cases e2
  rw[zBG hi] at e1';obtain⟨j,ej,en,kx,fx⟩:=hc.at e1';have e2':(σ[j]?).getD none=some v:=by
   unfold M3 at e2;rw[zBG (by rw[zBD]; omega),zBD,zAu,ej] at e2;exact Option.some.inj e2
  have e2'':σ[j]?=some (some v):=by
   cases z:σ[j]? with
   | none=>rw[z] at e2'; cases e2'
   | some o=>rw[z] at e2'; exact congrArg some e2'
  obtain⟨m,_,hl'⟩:=I.loc;obtain⟨u,ru,l⟩:=hl' j x v en e2'' (kx.elim (fun z=>.inr (.inl z)) fun z=>.inr (.inr z));refine⟨u,ru,.inr ⟨Lc fx,?_⟩⟩;rcases l with ⟨k,_⟩ | ⟨_,c,e,z⟩
  ·rcases kx with k' | k' <;> rw[k] at k' <;> cases k'
  ·obtain⟨d,hd⟩:=Dy (Tw e scope.names [] (PySem.mem_of_lookup fx))
   have e':=Hu hd;rw[e] at e';cases e';obtain⟨o,ho,dd⟩:=z;exact⟨c,hd,o,hk c o ho,dd⟩
 ·obtain⟨v,o,ho,dd⟩:=I.cell x c (Hu e)
  exact⟨v,o,hk c o ho,dd⟩
 ·exact absurd (show p∈([]:List (Addr×Obj)) from hp) (by simp)
 ·show (M3 own.length ix σ).length=NC.length
  rw[hN];unfold M3;rw[zAi,zAi,zBD,zAb,len]
theorem Sv {NC:List Str} {scope:Scope} {fp:List Addr} {σ':St} {h':Heap} (I:Inv X pins σ H s) (hf:∀ b∈fp,Iy X pins H b) (J:Inv (Vm X NC scope s H fp) [] σ' H' s') (hs:zBc s.heap.objs.size s'.heap h'):Inv X pins σ H' { s' with heap:=h' }:=by
 obtain⟨hh,g,d,t,os⟩:=s';have hos:os=s.os:=J.os;subst hos;have nC:H' s.heap.objs.size=none:=J.free;have un:Un (Xj X.stack) fp H H' s.heap hh:=J.base;have out:∀ b o,s.heap.get? b=some o->b≠s.heap.objs.size:=fun b o e=>zAm (zAh e);have un':Un (Xj X.stack) fp H H' s.heap h':=⟨fun b o e n hb hx=>(hs.2 b (out b o e)).trans (un.keep b o e n hb hx),fun b o e n hb hx=>let ⟨sl,q⟩:=un.slot b o e n hb hx; ⟨sl,(hs.2 b (out b o e)).trans q⟩,un.free,
  fun b o e hx=>let ⟨o',q⟩:=un.there b o e hx; ⟨o',(hs.2 b (out b o e)).trans q⟩,un.tups,un.frzs,un.tbls⟩
 have hok:HOk X.prog X.w H' h':=fun b u e=>by
  refine (J.hok b u e).stay (fun c v hc q=>(hs.2 c ?_).trans q) (fun _ q=>q) fun _ _ q=>q;rintro rfl;rcases hc with rfl | hc
  ·rw[nC] at e; cases e
  ·rw[nC] at hc; cases hc
 have q:=Inv.call (s:=s) (h':=h') (g':=g) (d':=d) (t':=t) (ch:=fp) I un' hok J.bare fun b hb=>⟨(hf b hb).2.2.2.1,(hf b hb).2.1,(hf b hb).2.2.2.2.1,(hf b hb).2.2.2.2.2⟩;exact q
end
theorem Sb {X:Cx} {elt tg iter:Expr} {ifs:List Expr} {scope:Scope} {pos:Pos} {NC own cs:List Str} {ix:List Nat} {g:TG} {tc:TT} {te:TE} (hc:X.calm=true) (S:CompScope X.env.scope scope) (hN:NC=own++cs) (hcap:Caps X scope cs ix)
  (hg:∀ s3 H3 fp,PG (Vm X NC scope s3 H3 fp) tg g) (ht:∀ s3 H3 fp,GF (Vm X NC scope s3 H3 fp) ifs tc) (he:∀ s3 H3 fp,PE (Vm X NC scope s3 H3 fp) elt te)
  {pins:List (Addr×Obj)} {σ:St} {H2:Hp} {s2:Shared} {it:Addr} {fp:List Addr} {tn:Nat->Heap->Prop} {J:It} (I2:Inv X pins σ H2 s2) (T:Wa X.prog X.w X.K tg J fp it tn) (st2:tn 0 s2.heap) (f2:∀ b∈fp,Iy X pins H2 b) {QQ:Addr->Hp->Prop} {E:Value->Shared->Prop}
  {RR:Value->Addr->Result->Shared->Prop}
  (h2:∀ p,H2 p=none->Sk g tc te own.length ix σ J p H2 (QQ p))
  (fin:∀ s3 H3 σ5 H5 s6,Inv X pins σ H3 s3->(∀ b∈fp,Iy X pins H3 b)->Inv (Vm X NC scope s3 H3 fp) [] σ5 H5 s6->QQ s2.heap.objs.size H5->RR (.ref s2.heap.objs.size) s3.heap.objs.size (.ok .next) s6) :
  wpAny (model X.prog X.w) X.A (newList []) (fun acc s3=>wpAny (model X.prog X.w) X.A (newFunctionEnv scope X.env.globals (F1 X.env.cells scope.names []) [] X.env.qual none .none (some X.env)) (fun cenv s4=>
   codeAny (model X.prog X.w) X.A (.compStart (.ListComp elt [⟨tg,iter,ifs,0⟩] scope pos) 0 (.ref it) acc { cenv with scope:=relabel scope X.env }) (RR acc cenv.locals) s4) E s3) E s2:=by
 have lt2:∀ b∈fp,b<s2.heap.objs.size:=fun b hb=>let ⟨_,e,_⟩:=T.obj _ _ st2 b hb; zAh e
 obtain⟨W,⟨m0,w0⟩,turn⟩:=h2 _ I2.fresh;refine wpAny_newObj_type ?_;have I3:Inv X pins σ (upd H2 s2.heap.objs.size (.lst [])) { s2 with heap:=s2.heap.push { cls:=.type "list",dict:=none,data:=.seq ([]:List Value).toArray } }:=I2.lnew (t':=s2.toks) .nil (zAk _);have f3:∀ b∈fp,Iy X pins (upd H2 s2.heap.objs.size (.lst [])) b:=fun b hb=>⟨by rw[Aq (zAm (lt2 b hb))]; exact (f2 b hb).1,(f2 b hb).2⟩;have st3:tn 0 (s2.heap.push { cls:=.type "list",dict:=none,data:=.seq ([]:List Value).toArray }):=T.keep _ _ _ st2 fun b hb o e=>zAc _ e;have lt3:∀ b∈fp,b<(s2.heap.push { cls:=.type "list",dict:=none,data:=.seq ([]:List Value).toArray }).objs.size:=fun b hb=>by rw[zBm]; exact zAU (lt2 b hb)
 refine wpAny_newFunctionEnv S.cell (fun _ z=>nomatch z) (fun h4 hns hsb=>?_) S.kind
 dsimp only at hns hsb ⊢
 have hk4:∀ b o,(s2.heap.push { cls:=.type "list",dict:=none,data:=.seq ([]:List Value).toArray }).get? b=some o->h4.get? b=some o:=fun b o e=>
  hsb.extBut b o (zAm (zAh e)) (zAc _ e)
 have J0:=Vv (t4:=s2.toks+([]:List (Str×Value)).length) I3 S hN hcap f3 lt3 hns hk4;have st4:tn 0 h4:=T.keep _ _ _ st3 fun b hb o e=>hk4 b o e;have fB:∀ {H':Hp},(∀ b∈fp,H' b=none)->∀ b∈fp,Iy (Vm X NC scope { s2 with heap:=s2.heap.push { cls:=.type "list",dict:=none,data:=.seq ([]:List Value).toArray } } (upd H2 s2.heap.objs.size (.lst [])) fp) [] H' b:=fun hn b hb=>by
  refine⟨hn b hb,zAm (lt3 b hb),fun z=>?_,.inl hb,fun x c e=>(f3 b hb).2.2.2.2.1 x c (Hu e),fun p hp=>absurd (show p∈([]:List (Addr×Obj)) from hp) (by simp)⟩;rcases zAp.mp (I3.stkSub b z) with z | z
  ·exact (f3 b hb).2.1 z
  ·exact (f3 b hb).2.2.1 z
 have loop:∀ s4:Shared,s4={ s2 with heap:=h4,toks:=s2.toks+([]:List (Str×Value)).length } ->
   codeAny (model X.prog X.w) X.A (.compLoop (.ListComp elt [⟨tg,iter,ifs,0⟩] scope pos) 0 (.ref it) (.ref s2.heap.objs.size) (compEnvC scope (F1 X.env.cells scope.names []) (s2.heap.push { cls:=.type "list",dict:=none,data:=.seq ([]:List Value).toArray }).objs.size X.env))
    (RR (.ref s2.heap.objs.size) (s2.heap.push { cls:=.type "list",dict:=none,data:=.seq ([]:List Value).toArray }).objs.size) s4:=by
  rintro s4 rfl;refine O3 (fun n s'=>∃ i ys σ' H',Inv (Vm X NC scope { s2 with heap:=s2.heap.push { cls:=.type "list",dict:=none,data:=.seq ([]:List Value).toArray } } (upd H2 s2.heap.objs.size (.lst [])) fp) [] σ' H' s'/\tn i s'.heap/\(∀ b∈fp,H' b=none)/\W i n ys σ' H') ?_ m0
   ⟨0,[],_,_,J0,st4,fun b hb=>(f3 b hb).1,w0⟩
  rintro n s5 ⟨i,ys,σ5,H5,J5,st5,fr5,w5⟩;obtain⟨hp5,alt⟩:=turn i n ys σ5 H5 w5;rcases alt with ⟨stop,qn⟩ | ⟨go,hz,step⟩
  ·refine Ca (T.done (Vm X NC scope _ _ fp) rfl rfl rfl hc i [] s5 σ5 H5 _ J5 (fB fr5) st5 stop) fun r s6 ⟨hr,J6⟩=>.inl ⟨hr,?_⟩
   exact fin _ _ _ _ _ I3 f3 J6 qn
  ·refine Ca (T.item (Vm X NC scope _ _ fp) rfl rfl rfl hc i [] s5 σ5 H5 _ J5 (fB fr5) st5 go) fun r s6 ⟨u,hr,h6⟩=>.inr ⟨u,hr,?_⟩
   refine Ca h6 fun _ s7 ⟨x,H7,J7,r7,y7,st7,fr7⟩=>?_;have J7':=J7.pinned (fB fr7) (T.obj _ _ st7);obtain⟨N,hN',q7⟩:=step x H7 y7;refine Ca (hg _ _ fp _ s7 σ5 H7 x u _ J7' r7 q7) fun _ s8 ⟨σ8,H8,J8,q8⟩=>?_;refine Ca (ht _ _ fp _ s8 σ8 H8 _ J8 q8) fun ok s9 ⟨H9,J9,q9⟩=>?_;have again:∀ {σa:St} {Ha:Hp} {sa:Shared} {ya:List V} {ma:Nat},Inv (Vm X NC scope { s2 with heap:=s2.heap.push { cls:=.type "list",dict:=none,data:=.seq ([]:List Value).toArray } } (upd H2 s2.heap.objs.size (.lst [])) fp) ([]++Qc fp s7.heap) σa Ha sa->ma<n->W (i+1) ma ya σa Ha ->
     ∃ m,m<n/\∃ i ys σ' H',Inv (Vm X NC scope { s2 with heap:=s2.heap.push { cls:=.type "list",dict:=none,data:=.seq ([]:List Value).toArray } } (upd H2 s2.heap.objs.size (.lst [])) fp) [] σ' H' sa/\tn i sa.heap/\(∀ b∈fp,H' b=none)/\W i m ys σ' H':=fun {σa Ha sa ya ma} Ja hm wa=>by
    refine⟨ma,hm,i+1,ya,σa,Ha,Ja.unpinned,T.keep _ _ _ st7 fun b hb o e=>(Ja.pin (b,o) (zAC _ (zAC _ (Hl hb e)))).1,fun b hb=>?_,wa⟩;obtain⟨o,e,d⟩:=T.obj _ _ st7 b hb;exact (Ja.pin (b,o) (zAC _ (zAC _ (Hl hb e)))).2.1
   cases ok with
   | false=>
    obtain⟨m',hm,w'⟩:=hN' _ _ _ (show N ys σ8 H9 from q9);exact .inr ⟨rfl,again J9 hm w'⟩
   | true=>
    refine .inl ⟨rfl,Ca (he _ _ fp _ s9 σ8 H9 _ J9 q9) fun yv s10 ⟨y,H10,J10,r10,hp10,n10⟩=>?_⟩;obtain⟨m',hm,w'⟩:=hN' _ _ _ n10;refine Ca (Ek _ s10 σ8 H10 (.ref s2.heap.objs.size) [y] (.ref s2.heap.objs.size) [yv] (fun _ Hz=>Hz=upd H10 s2.heap.objs.size (.lst (ys++[y]))) J10 rfl (.cons r10 .nil) ⟨_,ys,y,rfl,rfl,hp10,hz,rfl⟩) fun _ s11 ⟨_,H11,J11,_,e11⟩=>?_;subst e11;exact again J11 hm w'
 exact codeAny_compStart_list (loop _ rfl) (T.self X.A 0 _ _ _ st4 (loop _ rfl))
theorem Cj {X:Cx} {elt tg iter:Expr} {ifs:List Expr} {scope:Scope} {pos:Pos} {NC own cs:List Str} {ix:List Nat} {wi:TI} {g:TG} {tc:TT} {te:TE} (hc:X.calm=true) (S:CompScope X.env.scope scope) (hN:NC=own++cs) (hcap:Caps X scope cs ix)
  (hi:PI X tg iter wi) (hg:∀ s3 H3 fp,PG (Vm X NC scope s3 H3 fp) tg g) (ht:∀ s3 H3 fp,GF (Vm X NC scope s3 H3 fp) ifs tc) (he:∀ s3 H3 fp,PE (Vm X NC scope s3 H3 fp) elt te)
  (hs:∀ x,foldedSetIterable iter X.env x=pure x:=by intro _; rfl):PE X (.ListComp elt [⟨tg,iter,ifs,0⟩] scope pos) (CD wi g tc te own.length ix):=by
 intro pins s σ H Q I h;rw[eval_ListComp];have has:∀ y∈scope.names,y.2 = .free->∃ c,X.env.cells.lookup y.1=some c:=fun y hy e=>I.ok.has y.1 (S.free y hy e);refine wpAny_comprehension_free (use:=none) rfl hs (V6 has) S.kind S.own (Ca (hi pins s σ H _ I h) fun v s1 h1=>Ca h1 fun itv s2 h2=>?_);obtain⟨it,fp,tn,J,H2,e,I2,T,st2,f2,h2⟩:=h2;subst e;refine Sb hc S hN hcap hg ht he I2 T st2 f2 (QQ:=fun p=>Q (.ref p)) (RR:=fun acc C=>compPost (model X.prog X.w) X.A X.xe none (EP X pins σ Q) acc C) h2 fun s3 H3 σ5 H5 s6 I3 f3 J6 qn=>?_;obtain⟨m6,hn6,_⟩:=J6.loc;exact⟨m6,hn6,fun h7 hs7=>⟨.ref s2.heap.objs.size,H5,Sv I3 f3 J6 hs7,rfl,qn⟩⟩
theorem Cs {X:Cx} {elt tg iter:Expr} {ifs:List Expr} {scope:Scope} {pos py spos:Pos} {NC own cs:List Str} {ix:List Nat} {wi:TI} {g:TG} {tc:TT} {te:TE} {y:Str} {j:Nat} (hnd:X.N.Nodup) (hj:X.N[j]?=some y) (hy:X.env.scope.names.lookup y=some .local) (hc:X.calm=true) (S:CompScope X.env.scope scope) (hN:NC=own++cs) (hcap:Caps X scope cs ix)
  (hi:PI X tg iter wi) (hg:∀ s3 H3 fp,PG (Vm X NC scope s3 H3 fp) tg g) (ht:∀ s3 H3 fp,GF (Vm X NC scope s3 H3 fp) ifs tc) (he:∀ s3 H3 fp,PE (Vm X NC scope s3 H3 fp) elt te)
  (hsw:swapsWith (.ListComp elt [⟨tg,iter,ifs,0⟩] scope pos) (some (.Name y py)) spos.line X.env=pure true:=by rfl) (hs:∀ x,foldedSetIterable iter X.env x=pure x:=by intro _; rfl) :
  PS X (.Assign [.Name y py] (.ListComp elt [⟨tg,iter,ifs,0⟩] scope pos) spos) (W4 (CD wi g tc te own.length ix) (Df j)):=by
 intro pins s σ H D I h;rw[exec_Assign_Name_used _ _ _ _ hsw];refine zCt (wpAny_standAt (zCt ?_));show wpAny _ X.A (comprehension (.ListComp elt [⟨tg,iter,ifs,0⟩] scope pos) scope X.env _ (newList []) false (eval iter X.env) (some (assign (.Name y py) X.env)) >>= fun _=>_) _ _ s;have has:∀ y∈scope.names,y.2 = .free->∃ c,X.env.cells.lookup y.1=some c:=fun y hy e=>I.ok.has y.1 (S.free y hy e);refine zCt (Ca (wpAny_comprehension_free (use:=some (assign (.Name y py) X.env)) (Q:=fun _ s'=>SP X pins D .next s') rfl hs (V6 has) S.kind S.own (Ca (hi pins s σ H _ I h) fun v s1 h1=>Ca h1 fun itv s2 h2=>?_)) fun _ s' hq=>zCu (zCu hq));obtain⟨it,fp,tn,J,H2,e,I2,T,st2,f2,h2⟩:=h2;subst e;refine Sb hc S hN hcap hg ht he I2 T st2 f2 (QQ:=fun p H'=>D.nx (σ.set j (some (.ref p))) H') (RR:=fun acc C=>compPost (model X.prog X.w) X.A X.xe (some (assign (.Name y py) X.env)) (fun _ s'=>SP X pins D .next s') acc C) h2 fun s3 H3 σ5 H5 s6 I3 f3 J6 qn=>?_;obtain⟨m6,hn6,_⟩:=J6.loc;have I6:=Sv I3 f3 J6 (zBc.refl ..);show wpAny _ X.A (assign (.Name y py) X.env (.ref s2.heap.objs.size)) _ _ s6;refine wpAny_assign_Name (Tk (v:=.ref s2.heap.objs.size) I6 hnd hj (.inl hy) rfl (fun s7 I7 ⟨a,hs7,ha⟩=>?_) (.inr hy));have hCa:s3.heap.objs.size≠a:=by
  rcases ha with ha | ha
  ·rw[ha]; exact Ne.symm (zAm I3.lt)
  ·obtain⟨v,q⟩:=I3.cell y a ha
   exact Ne.symm (zAm q.lt)
 refine⟨m6,hn6.sameBut hs7 hCa,fun h8 hs8=>?_⟩;have nC:H5 s3.heap.objs.size=none:=J6.free;have I8:Inv X pins (σ.set j (some (.ref s2.heap.objs.size))) H5 { s7 with heap:=h8,toks:=s7.toks }:=by
  refine I7.turned (it:=s3.heap.objs.size) (fun b o hb e=>(hs8.2 b hb).trans e) nC (Ne.symm (zAm I3.lt)) (.inr I3.sz) (fun x c e z=>?_) (fun p hp z=>?_)
  ·obtain⟨v,q⟩:=I3.cell x c e
   exact absurd (z▸q.lt) (zBk _)
  ·exact absurd (z▸zAh (I3.pin p hp).1) (zBk _)
 exact⟨_,H5,I8,qn⟩
theorem Gd {X:Cx}:Fk X (.builtin "isinstance") (fun xs H Q=>∃ x c cv t b,xs=[x,c]/\(∀ u,RelV c u->u=cv)/\TyOf X.K H x t/\zAE X.K t cv=some b/\Q (.bl b) H):=by
 intro pins s σ H xs us Q I r h;obtain⟨x,c,cv,t,b,rfl,hc,ty,e,q⟩:=h;obtain⟨u,z,rfl,rx,rc⟩:=F0 r;cases hc z rc;exact K0 I rx ty e fun tk=>⟨.bl b,H,I.tok tk,rfl,q⟩
theorem Qr {n:String}:∀ u,RelV (.ty n) u->u = .type n:=fun _ h=>h
theorem Fb {a:Addr}:∀ u,RelV (.ref a) u->u = .ref a:=fun _ h=>h
theorem Qk {X:Cx} (hc:X.calm=true):Fk X (.builtin "sum") (fun xs H Q=>∃ p,∃ ns:List Int,xs=[.ref p]/\SqL X.K H p (ns.map V.int)/\Q (.int ns.sum) H):=by
 intro pins s σ H xs us Q I r h;obtain⟨p,ns,rfl,hq,q⟩:=h;obtain⟨u,rfl,rx⟩:=Ia r;cases rx;obtain⟨its,rv,pl,hz⟩:=I.list hq;have hi:IntsAre its ns:=Jy rv;obtain⟨ys,ey⟩:=hi.allInts.items;have hl:s.heap.IsList p (intItems ys):=ey▸pl.isList;have es:preSum (numAt ys) ys.size=ns.sum:=by
  have e1:=hi.numsOf;have e2:numsOf (intItems ys).toList=ns:=by rw[<- ey]; exact e1
  rw[nums_intItems] at e2;rw[preSum_eq,List.take_of_length_le (by simp),e2]
 refine sum_intListG (I.ok.hd hc) hl fun h' tk t' hk=>?_;exact⟨.int ns.sum,H,I.kept hk,⟨t',by rw[es]⟩,q⟩
def AL:List V->List V->Bool
 | [],[]=>true
 | x::xs,y::ys=>F4 x y&&AL xs ys
 | _,_=>false
theorem C8:∀ {xs ys:List V},xs.length≠ys.length->AL xs ys=false
 | [],[],h=>absurd rfl h
 | [],_::_,_=>rfl
 | _::_,[],_=>rfl
 | x::xs,y::ys,h=>by
  unfold AL;rw[C8 (xs:=xs) (ys:=ys) fun e=>h (by rw[zAl,zAl,e]),Bool.and_false]
theorem D7:∀ {xs ys:List V},xs.length=ys.length->∀ e:Nat->Bool,(∀ j x y,xs[j]?=some x->ys[j]?=some y->e j=F4 x y)->(zAN xs.length).all e=AL xs ys
 | [],[],_,_,_=>rfl
 | [],_::_,h,_,_=>by simp at h
 | _::_,[],h,_,_=>by simp at h
 | x::xs,y::ys,h,e,he=>by
  have ih:=D7 (xs:=xs) (ys:=ys) (by simpa using h) (fun j=>e (j+1)) fun j a b ha hb=>he (j+1) a b (by simpa using ha) (by simpa using hb);unfold AL;rw[zAl,List.range_succ_eq_map,List.all_cons,List.all_map,he 0 x y rfl rfl,<- ih];rfl
def V4 (its js:List Value) (xs ys:List V) (j:Nat):Bool:=match xs[j]?,ys[j]? with
 | some x,some y=>F4 x y
 | _,_=>true
theorem Q9 {X:Cx} {pins:List (Addr×Obj)} {s:Shared} {σ:St} {H:Hp} {A:Around} {xs ys:List V} {its js:List Value} (r1:Vals xs its) (r2:Vals ys js) (f1:xs.all Gc=true) (f2:ys.all Gc=true) (hl:xs.length=ys.length) :
  ∀ j (h1:j<its.toArray.size) (h2:j<js.toArray.size),SeqAt.EqAt A s its.toArray[j] js.toArray[j] (V4 its js xs ys j):=fun j h1 h2=>by
 have l1:=r1.length;have l2:=r2.length;rw[zAd] at h1 h2;have e1:xs[j]?=some xs[j]:=zAn (by omega);have e2:ys[j]?=some ys[j]:=zAn (by omega);obtain⟨u,hu,ru⟩:=r1.get e1;obtain⟨v,hv,rv⟩:=r2.get e2;have eu:its.toArray[j]=u:=by rw[List.getElem_toArray]; exact (zAj.mp hu).2
 have ev:js.toArray[j]=v:=by rw[List.getElem_toArray]; exact (zAj.mp hv).2
 rw[eu,ev];unfold V4;rw[e1,e2];exact X3 ru rv (zCq.mp f1 _ (zBj _)) (zCq.mp f2 _ (zBj _))
def GW (K:zAa) (neg:Bool):R2:=fun x y H Q=>∃ a b xs ys,x = .ref a/\y = .ref b/\SqL K H a xs/\SqL K H b ys/\xs.all Gc=true/\ys.all Gc=true/\Q (.bl (if neg then !AL xs ys else AL xs ys)) H
theorem DU {X:Cx} (hu:X.A.units<cLine):Jq X (compareOp .Eq) (GW X.K false):=by
 intro pins s σ H x y v u Q I rx ry h;obtain⟨a,b,xs,ys,rfl,rfl,h1,h2,f1,f2,q⟩:=h;cases rx;cases ry;obtain⟨its,r1,p1,z1⟩:=I.list h1;obtain⟨js,r2,p2,z2⟩:=I.list h2;have l1:=r1.length;have l2:=r2.length;by_cases hl:xs.length=ys.length
 ·refine SeqAt.eq_listAt p1.isList p2.isList (by rw[zAd,zAd]; lia) hu (Q9 (X:=X) (pins:=pins) (σ:=σ) (H:=H) r1 r2 f1 f2 hl) ?_
  refine⟨.bl (AL xs ys),H,I,?_,q⟩;show Value.bool _=Value.bool _;rw[zAd,<- l1,D7 hl];intro j x y e1 e2;unfold V4;rw[e1,e2]
 ·refine SeqAt.eq_list_lengthsAt p1.isList p2.isList (by simp only [zAd,bne_iff_ne,ne_eq]; lia) hu ?_
  exact⟨.bl (AL xs ys),H,I,by rw[C8 hl]; rfl,q⟩
def IQ (K:zAa) (te:TE) (tk:TE):TE:=fun σ H Q=>te σ H fun x H1=>tk σ H1 fun k H2=>k = .int (-1)/\∃ a xs,x = .ref a/\SqL K H2 a xs/\∀ p,H2 p=none->Q (.ref p) (upd H2 p (.lst xs.reverse))
theorem IT {X:Cx} {e k:Expr} {te tk:TE} {p2 pos:Pos} (he:PE X e te) (hk:PE X k tk):PE X (.Subscript e (.Slice none none (some k) p2) pos) (IQ X.K te tk):=by
 intro pins s σ H Q I h;refine Subscript_ (Ca (he pins s σ H _ I h) fun v s1 ⟨x,H1,I1,r1,q1⟩=>?_);refine wpAny_Slice ?_;rw[evalPart_none];refine zCu (zCu ?_);rw[evalPart_some];refine Ca (hk pins s1 σ H1 _ I1 q1) fun vk s2 ⟨z,H2,I2,r2,hz,a,xs,ex,hx,q⟩=>?_;subst hz ex;cases r1;obtain⟨t,rfl⟩:=r2;have I4:Inv X pins σ H2 { s2 with heap:=s2.heap.push { cls:=.type "slice",data:=.fields #[.none,.none,.int (-1) t] } }:=I2.kept (t':=s2.toks) fun b ob q=>zAc _ q;obtain⟨its,r,ht,hz⟩:=I4.list hx;have hlen:=r.length;refine tail_any (ops:=[.ref a,.ref s2.heap.objs.size]) ht.isList.typeIs slot_list_getitem.lookup ?_ (by with_unfolding_all rfl);refine wpAny_getItem_list_slice ht.isList (Heap.IsSliceOf.new ..) .none .none (.int (-1) t) (by decide) ?_ (by rw[zAd] <;> lia);refine⟨.ref _,_,I4.laid (t':=s2.toks) (o:=.lst xs.reverse) (fun b ob q=>zAc _ q) (zAf _) ?_,rfl,q _ (I4.hok.fresh (zAf _))⟩;refine⟨by rw[List.length_reverse]; exact hz,its.reverse,0,r.reverse,?_⟩;rw[PySem.W.krv_pick];exact zAt _ rfl
abbrev Dq (ix:List Nat) (σ:St):St:=ix.map fun j=>(σ[j]?).getD none
theorem Dx {lo:Int} {n:Nat} {tc:TT} {te:TE} {σ:St} {ix:List Nat} {QQ:Hp->Prop} {H1:Hp} {p:Addr} (Pv:Nat->List V->Hp->Prop) (h0:Pv 0 [] (upd H1 p (.lst [])))
  (hp:∀ i ys H,i<=n->Pv i ys H->H p=some (.lst ys)/\ys.length<=i) (hn:n<=sizeLine)
  (hs:∀ i ys H,i<n->Pv i ys H->tc (some (.int (lo+i))::Dq ix σ) H fun b H5=>if b=true then te (some (.int (lo+i))::Dq ix σ) H5 fun y H6=>H6 p=some (.lst ys) /\
   (some (.int (lo+i))::Dq ix σ)=(some (.int (lo+i))::Dq ix σ)/\Pv (i+1) (ys++[y]) (upd H6 p (.lst (ys++[y]))) else (some (.int (lo+i))::Dq ix σ)=(some (.int (lo+i))::Dq ix σ)/\Pv (i+1) ys H5)
  (hd:∀ ys H,Pv n ys H->QQ H) :
  Sk (Df 0) tc te 1 ix σ (EU lo n) p H1 QQ:=by
 refine⟨fun i m ys σ2 H2=>m=n-i/\i<=n/\(∃ o,σ2=o::Dq ix σ)/\Pv i ys H2,⟨n,by simp,zAk _,⟨none,rfl⟩,h0⟩,?_⟩;rintro i m ys σ2 H2 ⟨rfl,hi,⟨o,rfl⟩,pv⟩;obtain⟨hp2,hl2⟩:=hp i ys H2 hi pv;refine⟨hp2,?_⟩;by_cases hlt:i<n
 ·refine .inr ⟨hlt,by lia,fun x H3 y=>?_⟩
  obtain⟨e,y⟩:=y;subst e y;exact⟨fun ys' σ' H'=>σ'=(some (.int (lo+i))::Dq ix σ)/\Pv (i+1) ys' H',fun ys' σ' H' ⟨e,q⟩=>⟨n-(i+1),by lia,rfl,hlt,⟨_,e⟩,q⟩,hs i ys _ hlt pv⟩
 ·have e:i=n:=by lia
  subst e;exact .inl ⟨zAf _,hd ys H2 pv⟩
theorem Bo {K:zAa} {a:Addr} {xs:List V} {tc:TT} {te:TE} {σ:St} {ix:List Nat} {QQ:Hp->Prop} {H1:Hp} {p:Addr} (Pv:Nat->List V->Hp->Prop) (h0:Pv 0 [] (upd H1 p (.lst [])))
  (hp:∀ i ys H,i<=xs.length->Pv i ys H->H p=some (.lst ys)/\ys.length<=i/\SqL K H a xs) (hn:xs.length<=sizeLine)
  (hs:∀ i x ys H,xs[i]?=some x->Pv i ys H->tc (some x::Dq ix σ) H fun b H5=>if b=true then te (some x::Dq ix σ) H5 fun y H6=>H6 p=some (.lst ys) /\
   (some x::Dq ix σ)=(some x::Dq ix σ)/\Pv (i+1) (ys++[y]) (upd H6 p (.lst (ys++[y]))) else (some x::Dq ix σ)=(some x::Dq ix σ)/\Pv (i+1) ys H5)
  (hd:∀ ys H,Pv xs.length ys H->QQ H) :
  Sk (Df 0) tc te 1 ix σ (DV K a) p H1 QQ:=by
 refine⟨fun i m ys σ2 H2=>m=xs.length-i/\i<=xs.length/\(∃ o,σ2=o::Dq ix σ)/\Pv i ys H2,⟨xs.length,by simp,zAk _,⟨none,rfl⟩,h0⟩,?_⟩;rintro i m ys σ2 H2 ⟨rfl,hi,⟨o,rfl⟩,pv⟩;obtain⟨hp2,hl2,hq2⟩:=hp i ys H2 hi pv;refine⟨hp2,?_⟩;by_cases hlt:i<xs.length
 ·refine .inr ⟨⟨xs,xs[i],hq2,by simp [hlt]⟩,by lia,fun x H3 y=>?_⟩
  obtain⟨e,y⟩:=y;subst e;exact⟨fun ys' σ' H'=>σ'=(some x::Dq ix σ)/\Pv (i+1) ys' H',fun ys' σ' H' ⟨e,q⟩=>⟨xs.length-(i+1),by lia,rfl,hlt,⟨_,e⟩,q⟩,hs i x ys _ (y xs hq2) pv⟩
 ·have e:i=xs.length:=by lia
  subst e;exact .inl ⟨⟨xs,hq2,zAf _⟩,hd ys H2 pv⟩
structure Cr (P:Program) (w:World) (K:zAa) (mg:Str->Option Value) (base:Heap) (k:Nat) (x:Str) (ps:List Str) (sp:Sp):Prop where
 ex:∃ f fd,FnOk P w K mg base Da k f fd ps sp/\Binds K fd ps []/\zAT K (.ref f)=true/\mg x=some (.ref f)
theorem Av {X:Cx} {k:Nat} {x:Str} {ps:List Str} {sp:Sp} {e:Expr} {es:List Expr} {p pos:Pos} {t:TA} (C:Cr X.prog X.w X.K X.mg X.base k x ps sp) (hr:Room k X.A) (hg:Gl X x) (ha:PA X (e::es) t)
  (hdb:(x==("__debug__" : Str))=false:=by decide) (he:starEach (e::es) X.env=(false,eval e X.env)::starEach es X.env:=by rfl) (hpl:(backTo pos (starEach es X.env)).any (·.1)=false:=by rfl) :
  PE X (.Call (.Name x p) (e::es) [] pos) (Q5 sp [] E0 t):=by
 obtain⟨f,fd,F,b,kp,hm⟩:=C.ex;exact BL F hr hg hm kp b .nil Sn ha hdb he hpl
structure Def (K:zAa) (mg:Str->Option Value) (x:Str) (st:Stmt) (ps:List Str):Prop where
 ex:∃ f fd,Fun K x x st f fd/\Binds K fd ps []/\mg x=some (.ref f)
theorem Def.cal {P:Program} {w:World} {K:zAa} {mg:Str->Option Value} {base:Heap} {k:Nat} {x:Str} {st:Stmt} {ps:List Str} {sp:Sp} (D:Def K mg x st ps) (h:∀ f fd,Fun K x x st f fd->FnOk P w K mg base Da k f fd ps sp):Cr P w K mg base k x ps sp:=by
 obtain⟨f,fd,F,b,m⟩:=D.ex;exact⟨f,fd,h f fd F,b,F.kp,m⟩
def Ls (mg:Str->Option Value) (x:Str) (i:Int):Prop:=∃ t,mg x=some (.int i t)
def BN (mg:Str->Option Value) (x:Str) (z:Str):Prop:=∃ t,mg x=some (.str z t)
theorem Cu {X:Cx} {x:Str} {i:Int} {pos:Pos} (h:Ls X.mg x i) (hg:Gl X x) (hd:(x==("__debug__" : Str))=false:=by decide):PE X (.Name x pos) (tC (.int i)):=by
 obtain⟨t,e⟩:=h;exact Vb hg e ⟨t,rfl⟩ hd
theorem Fl {X:Cx} {x:Str} {i:Str} {pos:Pos} (h:BN X.mg x i) (hg:Gl X x) (hd:(x==("__debug__" : Str))=false:=by decide):PE X (.Name x pos) (tC (.str i)):=by
 obtain⟨t,e⟩:=h;exact Vb hg e ⟨t,rfl⟩ hd
theorem Xf {X:Cx} {x:Str} {pos:Pos} (T:String) (hg:Gl X x) (hm:X.mg x=none) (hv:zCw x=some (.type T)) (hn:x ≠ "__name__" := by decide) (hd:(x==("__debug__" : Str))=false:=by decide):PE X (.Name x pos) (tC (.ty T)):=
 BP (v:=.ty T) hg hm hv rfl hn hd
theorem We {X:Cx} {K:zAa} (h:X.K=K):FJ X (GT K):=h▸Bx
theorem Ai {H:Hp} {p:Addr} (h:H p=none) (o:HO):Same H (upd H p o):=fun b u q=>by rw[Aq (Ap q h)]; exact q
theorem Bk {n:Nat} (h:n<=1000):n<=sizeLine:=zBw (L6 h)
theorem DN {ns:List Int} {i:Nat} {n:Int} (h:ns[i]?=some n):Zb (ns.map V.int) (i:Int)=some (.int n):=Uy (by rw[zAu,h]; rfl)
theorem BQ {ns:List Int} {i:Int} (h0:0<=i) (h:i<ns.length):Zb (ns.map V.int) i=some (.int (ns.getD i.toNat 0)):=by
 have e:((i.toNat:Nat):Int)=i:=by lia
 have q:=DN (ns:=ns) (i:=i.toNat) (n:=ns.getD i.toNat 0) (by rw[zAn (by lia),zAI,zAn (by lia)]; rfl);rw[e] at q;exact q
theorem EO {k:Nat} {A:Around} (hr:Room k A):A.units<cLine:=hr.units0
example:zCw "int" = some (.type "int"):=by rfl
def FP (K:zAa) (a:Addr):It:=
 ⟨fun i H=>∃ xs x,SqL K H a xs/\xs[i]?=some x,
   fun i H x H'=>∃ t y,x = .ref t/\H t=none/\(∀ xs,SqL K H a xs->xs[i]?=some y)/\H'=upd H t (.tup [.int i,y]),
   fun i H=>∃ xs,SqL K H a xs/\xs.length<=i⟩
theorem O6 {P:Program} {w:World} {K:zAa} {elts:List Expr} {k:Nat} {tp:Pos} (a e it:Addr) (hei:e≠it) :
  Wa P w K (.Tuple elts k tp) (FP K a) [e,it] e (fun i h=>(∃ old,IsEnum h e it i old)/\h.IsListIter it a i) where
 mem:=by simp
 obj:=fun i h st b hb=>by
  obtain⟨⟨old,he⟩,o,ho,c,d⟩:=st;rcases zAp.mp hb with rfl | hb
  ·exact⟨_,he,fun v z=>by
    have z':Data.fields _=Data.cell v:=z;cases z'⟩
  ·have eb:b=it:=by simpa using hb
   subst eb;exact⟨o,ho,fun v z=>by rw[d] at z; cases z⟩
 keep:=fun i h h' st kk=>by
  obtain⟨⟨old,he⟩,hit⟩:=st;exact⟨⟨old,kk e (by simp) _ he⟩,hit.at fun o x=>kk it (by simp) o x⟩
 item:=by
  intro X hP hw hK hc i pins s σ H E I hf st hg;subst hP hw hK;obtain⟨⟨old,he⟩,hit⟩:=st;obtain⟨xs,x,hq,hx⟩:=hg;obtain⟨its,rv,p,hz⟩:=I.list hq;obtain⟨u,hu,ru⟩:=rv.get hx;obtain⟨e0,e1,e2,e3,e4,e5⟩:=hf e (by simp);obtain⟨i0,i1,i2,i3,i4,i5⟩:=hf it (by simp);refine wpAny_pyNext_enum_item he hit p.isList (x:=u) (by simpa using hu) hei fun h1 ho hit1 hT hsz hk=>⟨_,rfl,?_⟩;refine wpAny_letOwnedTupleGo_enum ho fun h2 he2 hs2=>?_;have hs2':zBc e h1 h2:=hs2;have helt:e<s.heap.objs.size:=zAh he;have hnT:H s.heap.objs.size=none:=I.hok.fresh (zAf _);have up:∀ b o,b≠e->b≠it->s.heap.get? b=some o->h2.get? b=some o:=fun b o h3 h4 q=>(hs2'.2 b h3).trans (hk b o h3 h4 q);have nch:∀ b,b∉[e,it]->b≠e/\b≠it:=fun b hb=>⟨fun z=>hb (by simp [z]),fun z=>hb (by simp [z])⟩;have ntr:∀ b o,H b=some o->b≠e/\b≠it:=fun b o q=>⟨fun z=>by (rw[z,e0] at q; cases q),fun z=>by (rw[z,i0] at q; cases q)⟩;have htup:h2.get? s.heap.objs.size=some { cls:=.type "tuple",data:=.seq #[.int i s.toks,u] }:=(hs2'.2 _ (zAF helt)).trans hT;have I1:Inv X pins σ (upd H s.heap.objs.size (.tup [.int i,x])) { s with heap:=h2,gens:=s.gens,drawn:=s.drawn,toks:=s.toks+1 }:=by
   refine I.step (ch:=[e,it]) (fun b hb=>?_) (fun b o _ _ hb q _=>up b o (nch b hb).1 (nch b hb).2 q) (fun b o _ _ hb q _=>⟨o.slots,up b o (nch b hb).1 (nch b hb).2 q⟩) (fun b o _ q n=>by rw[Aq (zAm (zAh q))]; exact n)
    (fun b o hb q=>⟨o,up b o (nch b hb).1 (nch b hb).2 q⟩) (fun b xs q=>by rw[Aq (Ap q hnT)]; exact q) (fun b o u q=>by rw[Aq (Ap q hnT)]; exact q) (fun b ps q=>⟨#[],by rw[Aq (Ap q hnT),q]; simp⟩)
    (fun m hm=>?_) (fun b o q=>?_) I.bare
   ·rcases zAp.mp hb with rfl | hb
    ·exact⟨e3,e1,e4,e5⟩
    ·have eb:b=it:=by simpa using hb
     subst eb;exact⟨i3,i1,i4,i5⟩
   ·obtain⟨o,es,ep,hoL,r⟩:=hm
    exact⟨o,es,ep,up _ o (Ne.symm e1) (Ne.symm i1) hoL,r⟩
   ·by_cases hb:b=s.heap.objs.size
    ·subst hb
     rw[Af] at q;cases q;exact⟨Bk (by show 2<=1000; decide),[.int i s.toks,u],.cons ⟨_,rfl⟩ (.cons ru .nil),_,htup,rfl,_,rfl⟩
    ·rw[Aq hb] at q
     refine (I.hok b o q).stay (fun c v hc2 q2=>?_) (fun c q2=>by rw[Aq (Ap q2 hnT)]; exact q2) (fun c xs q2=>by rw[Aq (Ap q2 hnT)]; exact q2);rcases hc2 with rfl | hc2
     ·exact up _ v (ntr _ _ q).1 (ntr _ _ q).2 q2
     ·exact up _ v (ntr _ _ hc2).1 (ntr _ _ hc2).2 q2
  refine⟨.ref s.heap.objs.size,_,I1,rfl,⟨_,x,rfl,hnT,fun ys hy=>by rw[I.list_inj hy hq]; exact hx,rfl⟩,⟨⟨u,?_⟩,?_⟩,fun b hb=>?_⟩
  ·have ei:((i+1:Nat):Int)=(i:Int)+1:=by lia
   rw[ei];exact he2
  ·exact hit1.at fun o q=>(hs2'.2 it hei.symm).trans q
  ·have hbl:b<s.heap.objs.size:=by
    rcases zAp.mp hb with rfl | hb
    ·exact helt
    ·have eb:b=it:=by simpa using hb
     subst eb;obtain⟨o,q,_⟩:=hit;exact zAh q
   rw[Aq (zAm hbl)];exact (hf b hb).1
 done:=by
  intro X hP hw hK hc i pins s σ H E I hf st hg;subst hP hw hK;obtain⟨⟨old,he⟩,hit⟩:=st;obtain⟨xs,hq,hx⟩:=hg;obtain⟨its,rv,p,hz⟩:=I.list hq;obtain⟨i0,i1,i2,i3,i4,i5⟩:=hf it (by simp);have hl:=rv.length;exact wpAny_pyNext_enum_end (I.ok.hd hc) he hit p.isList (by simp; lia) fun h' eb=>⟨rfl,I.turned (t':=s.toks) (fun b o hb q=>eb b o hb q) i0 i1 i3 i4 i5⟩
 self:=fun _ _ _ _ _ st h=>by
  obtain⟨⟨old,he⟩,_⟩:=st;exact wpAny_pyIter_enum he h
def GI (K:zAa) (ta:TA):TI:=fun σ H R=>ta σ H fun vs H1=>∃ a,vs=[.ref a]/\(∃ xs,SqL K H1 a xs)/\R (FP K a) H1
theorem Ld {X:Cx} {a:Expr} {ta:TA} {p pos tp:Pos} {elts:List Expr} {k:Nat} (hg:Gl X "enumerate") (hm:X.mg "enumerate" = none) (ha:PA X [a] ta) (hs:starEach [a] X.env=[(false,eval a X.env)]:=by rfl) :
  PI X (.Tuple elts k tp) (.Call (.Name "enumerate" p) [a] [] pos) (GI X.K ta):=by
 intro pins s σ H R I h;refine Call_ (Dm I hg hm (show zCw "enumerate" = some (.type "enumerate") from rfl) (PyProof.Rows.callWith_type1 (Ca (ha pos pins s σ H _ I h) fun us s1 ⟨vs,H1,I1,r1,q1⟩=>?_) hs rfl));obtain⟨a,ev,⟨xs,hq⟩,q⟩:=q1;subst ev;obtain⟨u,rfl,rx⟩:=Ia r1;cases rx;obtain⟨its,rv,pl,hz⟩:=I1.list hq;refine call_enumerate_list pl.isList fun h' he hit hsz hk=>?_;refine wpAny_pyIter_enum he ?_;have I2:Inv X pins σ H1 { s1 with heap:=h' }:=I1.kept (t':=s1.toks) hk;refine⟨_,[s1.heap.objs.size+1,s1.heap.objs.size],_,_,H1,rfl,I2,O6 a _ _ (Nat.succ_ne_self _),⟨⟨_,he⟩,hit⟩,fun b hb=>?_,q⟩;rcases zAp.mp hb with rfl | hb
 ·exact I1.fpOk (zBh _) (I1.hok.fresh (zBh _))
 ·have eb:b=s1.heap.objs.size:=by simpa using hb
  subst eb;exact I1.fpOk (zAf _) (I1.hok.fresh (zAf _))
theorem Lp {X:Cx} {K:zAa} {es:List Expr} {k:Nat} {t:CL} {n:Nat} {pos:Pos} (hK:X.K=K) (hc:X.calm=true) (h:FY X es t)
  (hn:(assignEach es X.env).length=n:=by rfl) (hst:(assignEach es X.env).findIdx? (·.1)=none:=by rfl):PG X (.Tuple es k pos) (L5 K n t):=hK▸Ig hc h hn hst
theorem Tb {K K':zAa} {a:Addr} {xs:List V} {tc:TT} {te:TE} {σ:St} {ix:List Nat} {QQ:Hp->Prop} {H1:Hp} {p:Addr} (Pv:Nat->List V->Hp->Prop) (h0:Pv 0 [] (upd H1 p (.lst [])))
  (hp:∀ i ys H,i<=xs.length->Pv i ys H->H p=some (.lst ys)/\ys.length<=i/\SqL K H a xs) (hn:xs.length<=sizeLine)
  (hs:∀ i x ys H t,xs[i]?=some x->Pv i ys H->H t=none->tc (some (.int i)::some x::Dq ix σ) (upd H t (.tup [.int i,x])) fun b H5=>if b=true then te (some (.int i)::some x::Dq ix σ) H5 fun y H6=>H6 p=some (.lst ys) /\
   (some (.int i)::some x::Dq ix σ)=(some (.int i)::some x::Dq ix σ)/\Pv (i+1) (ys++[y]) (upd H6 p (.lst (ys++[y]))) else (some (.int i)::some x::Dq ix σ)=(some (.int i)::some x::Dq ix σ)/\Pv (i+1) ys H5)
  (hd:∀ ys H,Pv xs.length ys H->QQ H) :
  Sk (L5 K' 2 (Kv (Df 0) (Kv (Df 1) T1))) tc te 2 ix σ (FP K a) p H1 QQ:=by
 refine⟨fun i m ys σ2 H2=>m=xs.length-i/\i<=xs.length/\(∃ o o',σ2=o::o'::Dq ix σ)/\Pv i ys H2,⟨xs.length,by simp,zAk _,⟨none,none,rfl⟩,h0⟩,?_⟩;rintro i m ys σ2 H2 ⟨rfl,hi,⟨o,o',rfl⟩,pv⟩;obtain⟨hp2,hl2,hq2⟩:=hp i ys H2 hi pv;refine⟨hp2,?_⟩;by_cases hlt:i<xs.length
 ·refine .inr ⟨⟨xs,xs[i],hq2,by simp [hlt]⟩,by lia,fun x H3 y=>?_⟩
  obtain⟨t,z,ex,ht,hz,e3⟩:=y;subst ex e3;refine⟨fun ys' σ' H'=>σ'=(some (.int i)::some z::Dq ix σ)/\Pv (i+1) ys' H',fun ys' σ' H' ⟨e,q⟩=>⟨xs.length-(i+1),by lia,rfl,hlt,⟨_,_,e⟩,q⟩,?_⟩;exact⟨t,_,rfl,SqT.of Af,rfl,_,_,rfl,_,_,rfl,rfl,hs i z ys H2 t (hz xs hq2) pv ht⟩
 ·have e:i=xs.length:=by lia
  subst e;exact .inl ⟨⟨xs,hq2,zAf _⟩,hd ys H2 pv⟩
structure Il (P:Program) (w:World) (K:zAa) (mg:Str->Option Value) (base:Heap) (k:Nat) (C:Addr) (m:Str) (ps:List Str) (sp:Sp):Prop where
 ex:∃ f fd,FnOk P w K mg base Da k f fd ps sp/\Binds K fd ps []/\Gn K C m f
 cl:Cls K C
theorem Dp {X:Cx} {k:Nat} {C:Addr} {m:Str} {ps:List Str} {sp:Sp} {e o:Expr} {es:List Expr} {apos pos:Pos} {ta:TE} {t:TA} {pl:Sem Bool} (M:Il X.prog X.w X.K X.mg X.base k C m ps sp) (hr:Room k X.A) (he:PE X o ta) (ha:PA X (e::es) t)
  (hst:starEach (e::es) X.env=(false,eval e X.env)::starEach es X.env:=by rfl) (hpl:(backTo pos (starEach es X.env)).any (·.1)=false:=by rfl)
  (ht:eval (.Call (.Attribute o m apos) (e::es) [] pos) X.env=(do
   let ov <- eval o X.env
   standAt apos.atName
   let (f,first) <- holding [ov] (getMethod ov m pl)
   callWith pos f first (backTo pos (starEach (e::es) X.env)) (backToKw pos (keywordEach [] X.env))):=by rfl) :
  PE X (.Call (.Attribute o m apos) (e::es) [] pos) (BY C m sp [] E0 ta t):=by
 obtain⟨f,fd,F,b,hm⟩:=M.ex;exact BG he M.cl hm F hr b .nil Sn ha hst hpl ht
structure Gw (P:Program) (w:World) (K:zAa) (mg:Str->Option Value) (base:Heap) (k:Nat) (x:Str) (C:Addr) (ps:List Str) (sp:Sp):Prop where
 ex:∃ f fd,Mk K C f/\FnOk P w K mg base Da k f fd ps sp/\Binds K fd ps []/\mg x=some (.ref C)
theorem Eu {X:Cx} {k:Nat} {x:Str} {C:Addr} {ps:List Str} {sp:Sp} {e:Expr} {es:List Expr} {p pos:Pos} {t:TA} (M:Gw X.prog X.w X.K X.mg X.base k x C ps sp) (hr:Room (k+1) X.A) (hg:Gl X x) (ha:PA X (e::es) t)
  (hdb:(x==("__debug__" : Str))=false:=by decide) (he:starEach (e::es) X.env=(false,eval e X.env)::starEach es X.env:=by rfl) (hpl:(backTo pos (starEach es X.env)).any (·.1)=false:=by rfl) :
  PE X (.Call (.Name x p) (e::es) [] pos) (C9 C sp [] E0 t):=by
 obtain⟨f,fd,mk,F,b,hm⟩:=M.ex;exact AQ mk F hr hg hm b .nil Sn ha hdb he hpl
theorem FD {X:Cx} {K:zAa} {o e:Expr} {es:List Expr} {to:TE} {t:TA} {name:Str} {apos cpos:Pos} {T id:String} {r:V->List V->Hp->VK->Prop} (hK:X.K=K) (pa:PlainAttrs T) (slot:Slot T name id) (hty:typeOf (.builtin id)=pure (.type "method_descriptor")) (hm:HF X id r) (ho:PE X o to) (ha:PA X (e::es) t)
  (hbase:attributeBase o name X.env (eval o X.env)=eval o X.env:=by rfl)
  (hfew:((backTo cpos (starEach (e::es) X.env)).all (fun x => !x.1)&&(backToKw cpos (keywordEach [] X.env)).all (fun x=>x.1.isSome)
   && decide ((e::es).length+([]:List Keyword).length+(if ([]:List Keyword).isEmpty then 0 else 1)<30))=true:=by rfl)
  (hline:(apos.endLine==cpos.line)=true:=by rfl) (hs:starEach (e::es) X.env=(false,eval e X.env)::starEach es X.env:=by rfl) (hplain:(backTo cpos (starEach es X.env)).any (·.1)=false:=by rfl) :
  PE X (.Call (.Attribute o name apos) (e::es) [] cpos) (JM K T r to t):=hK▸Fu pa slot hty hm ho ha hbase hfew hline hs hplain
theorem FL {X:Cx} (hc:X.calm=true):Fk X (.builtin "min") (fun xs H Q=>∃ p,∃ ns:List Int,xs=[.ref p]/\SqL X.K H p (ns.map V.int)/\ns≠[]/\∀ m∈ns,Q (.int m) H):=by
 intro pins s σ H xs us Q I r h;obtain⟨p,ns,rfl,hq,hne,q⟩:=h;obtain⟨u,rfl,rx⟩:=Ia r;cases rx;obtain⟨its,rv,pl,hz⟩:=I.list hq;have hi:IntsAre its ns:=Jy rv;obtain⟨ys,ey⟩:=hi.allInts.items;have hl:s.heap.IsList p (intItems ys):=ey▸pl.isList;have lenI:its.length=ns.length:=hi.length;have hy:ys.size=ns.length:=by
  have z:=congrArg Array.size ey;rw[zAd] at z;unfold intItems at z;rw[Array.size_map] at z
  lia
 have hpos:0<ns.length:=List.length_pos_iff.mpr hne;refine min_intList (I.ok.hd hc) hl (by lia) fun v h' tk hv hk=>?_;rw[<- ey] at hv;have hv':∃ j,its[j]?=some v:=⟨_,by simpa using hv⟩;obtain⟨j,hj⟩:=hv';have hlt:j<ns.length:=by have:=(zAj.mp hj).1; lia
 obtain⟨u,hu,ru⟩:=rv.get (i:=j) (x:=.int ns[j]) (by rw[zAu,zAn hlt]; rfl);rw[hj] at hu;cases hu;exact⟨.int ns[j],H,I.kept hk,ru,q _ (zBj _)⟩
theorem ObjOk.is {P:Program} {w:World} {H:Hp} {h:Heap} {a:Addr} {o:HO} (x:ObjOk P w H h a o):∃ ob,h.get? a=some ob:=by
 cases o with
 | lst xs=>obtain⟨_,_,_,_,e⟩:=x; exact⟨_,e⟩
 | tup xs=>obtain⟨_,_,_,_,e,_⟩:=x; exact⟨_,e⟩
 | dK kvs=>obtain⟨_,_,_,_,_,_,_,e,_⟩:=x; exact⟨_,e⟩
 | dT kvs=>obtain⟨_,_,_,_,_,_,_,e,_⟩:=x; exact⟨_,e⟩
 | set S n=>obtain⟨_,_,_,_,e,_⟩:=x; exact⟨_,e⟩
 | ins C dx fs=>obtain⟨_,_,_,e,_⟩:=x; exact⟨_,e⟩
 | own y=>exact x
 | xd fs=>obtain⟨_,⟨_,_,_,e,_⟩,_⟩:=x; exact⟨_,e⟩
 | rng lo hi=>obtain⟨_,_,_,e⟩:=x; exact⟨_,e⟩
 | frz ob u=>exact⟨_,x.1⟩
 | tbl ps=>exact⟨_,x⟩
 | met f y=>exact⟨_,x⟩
 | ext φ=>exact x.2.1
def XOb (h:Heap) (e:Addr) (c:Value) (d:Option Addr) (ctx:Value) (fx:Addr->Prop):Prop:=
 ∃ oe vs,h.get? e=some oe/\oe.cls=c/\oe.dict=d/\oe.data = .fields vs/\1<vs.size/\vs[2]?=some ctx/\fx e /\
  (vs[1]?=some .none\/∃ T oT ts,vs[1]?=some (.ref T)/\T≠e/\h.get? T=some oT/\oT.data = .fields ts/\ts[3]?=some .none/\fx T)
theorem XOb.imp {h:Heap} {e:Addr} {c:Value} {d:Option Addr} {ctx:Value} {fx fy:Addr->Prop} (x:XOb h e c d ctx fx) (f:∀ b,fx b->fy b):XOb h e c d ctx fy:=by
 obtain⟨oe,vs,he,hc,hdd,hd,hz,h2,fe,ht⟩:=x;refine⟨oe,vs,he,hc,hdd,hd,hz,h2,f _ fe,?_⟩;rcases ht with h1 | ⟨T,oT,ts,h1,hTe,hT,hdT,h3,fT⟩
 ·exact .inl h1
 ·exact .inr ⟨T,oT,ts,h1,hTe,hT,hdT,h3,f _ fT⟩
def FxOk (X:Cx) (pins:List (Addr×Obj)) (H:Hp) (b:Addr):Prop:=
 H b=none/\b≠X.env.locals/\b∉X.fs/\(b∈X.ex\/X.s₀.heap.get? b=none)/\(∀ x c,X.env.cells.lookup x=some c->c≠b)/\∀ p∈X.pn++pins,p.1≠b
section
variable {X:Cx} {pins:List (Addr×Obj)} {σ:St} {H H':Hp} {s:Shared} {h':Heap}
theorem Inv.fxOk {b:Addr} (I:Inv X pins σ H s) (hb:s.heap.get? b=none) (hn:H' b=none):FxOk X pins H' b:=by
 have no:∀ {a:Addr} {o:Obj},s.heap.get? a=some o->a≠b:=fun {a o} q z=>by rw[z,hb] at q; cases q
 refine⟨hn,fun z=>?_,fun z=>?_,?_,fun x c e=>?_,fun p hp=>no (I.pin p hp).1⟩
 ·obtain⟨m,⟨o,es,ep,ho,_⟩,_⟩:=I.loc
  exact no ho z.symm
 ·obtain⟨_,o,ho,_⟩:=I.ok.funs.mem z
  have n1:b∉X.ex:=fun y=>I.ok.exfs b y z;obtain⟨o',e'⟩:=I.base.there b o ho n1;exact no e' rfl
 ·by_cases hx:b∈X.ex
  ·exact .inl hx
  ·refine .inr ?_
   cases q:X.s₀.heap.get? b with
   | none=>rfl
   | some o=>
    obtain⟨o',e'⟩:=I.base.there b o q hx;exact absurd rfl (no e')
 ·obtain⟨v,o,ho,_⟩:=I.cell x c e
  exact no ho
theorem Inv.stepN {g':Array GenState} {t':Nat} {d':Drawn} {ch:List Addr} (I:Inv X pins σ H s)
  (hch:∀ b∈ch,(b∈X.ex\/X.s₀.heap.get? b=none)/\b≠X.env.locals/\(∀ x c,X.env.cells.lookup x=some c->c≠b)/\∀ p∈X.pn++pins,p.1≠b)
  (keep:∀ b o,b≠X.env.locals->b∉X.fs->b∉ch->s.heap.get? b=some o->H b=none->h'.get? b=some o)
  (slot:∀ b o,b≠X.env.locals->b∈X.fs->b∉ch->s.heap.get? b=some o->H b=none->∃ sl,h'.get? b=some { o with slots:=sl }) (free:∀ b o,b∉ch->s.heap.get? b=some o->H b=none->H' b=none)
  (there:∀ b o,b∉ch->s.heap.get? b=some o->∃ o',h'.get? b=some o')
  (tups:∀ b xs,H b=some (.tup xs)->H' b=some (.tup xs)) (frzs:∀ b o u,H b=some (.frz o u)->H' b=some (.frz o u)) (tbls:∀ b ps,H b=some (.tbl ps)->∃ more,H' b=some (.tbl (ps++more)))
  (ns:∀ m,s.heap.Ns X.env.locals m->h'.Ns X.env.locals m) (hok:HOk X.prog X.w H' h') (hg:AllBare g') :
  Inv X pins σ H' { s with heap:=h',gens:=g',drawn:=d',toks:=t' }:=by
 have neL:∀ b o,X.s₀.heap.get? b=some o->b≠X.env.locals:=fun b o e=>zAm (zAq (zAh e) I.ok.above);have neC:∀ b o,X.s₀.heap.get? b=some o->b∉X.ex->b∉ch:=fun b o e hx hb=>by
  rcases (hch b hb).1 with z | z
  ·exact hx z
  ·rw[e] at z; cases z
 have cellK:∀ x c,X.env.cells.lookup x=some c->∀ v,s.heap.IsCell c v->h'.IsCell c v:=fun x c e v ⟨o,ho,hd⟩=>by
  have nch:c∉ch:=fun z=>(hch c z).2.2.1 x c e rfl;by_cases hc:c∈X.fs
  ·obtain⟨sl,q⟩:=slot c o (I.cne x c e) hc nch ho (I.freeC x c e)
   exact⟨_,q,hd⟩
  ·exact⟨o,keep c o (I.cne x c e) hc nch ho (I.freeC x c e),hd⟩
 refine⟨I.ok,I.os,hg,⟨fun b o e n hb hx=>?_,fun b o e n hb hx=>?_,fun b o e n hx=>?_,fun b o e hx=>?_,fun b xs e=>tups b xs (I.base.tups b xs e),fun b o xs e=>frzs b o xs (I.base.frzs b o xs e),fun b ps e=>?_⟩,?_,fun x c e=>?_,?_,fun x c e=>?_,fun p hp=>?_,hok,I.len⟩
 ·exact keep b o (neL b o e) hb (neC b o e hx) (I.base.keep b o e n hb hx) (I.base.free b o e n hx)
 ·obtain⟨sl,e1⟩:=I.base.slot b o e n hb hx
  obtain⟨sl',e2⟩:=slot b _ (neL b o e) hb (neC b o e hx) e1 (I.base.free b o e n hx);exact⟨sl',e2⟩
 ·obtain⟨o',e1⟩:=I.base.there b o e hx
  exact free b o' (neC b o e hx) e1 (I.base.free b o e n hx)
 ·obtain⟨o',e1⟩:=I.base.there b o e hx
  exact there b o' (neC b o e hx) e1
 ·obtain⟨m1,e1⟩:=I.base.tbls b ps e
  obtain⟨m2,e2⟩:=tbls b _ e1;exact⟨m1++m2,by rw[e2,Array.append_assoc]⟩
 ·obtain⟨m,hn,hl⟩:=I.loc
  refine⟨m,ns m hn,fun i x v e1 e2 e3=>?_⟩;obtain⟨u,r,l⟩:=hl i x v e1 e2 e3;refine⟨u,r,?_⟩;rcases l with l | ⟨k,c,e,z⟩
  ·exact .inl l
  ·exact .inr ⟨k,c,e,cellK x c e _ z⟩
 ·obtain⟨v,z⟩:=I.cell x c e
  exact⟨v,cellK x c e v z⟩
 ·obtain⟨m,⟨o,_,_,ho,_⟩,_⟩:=I.loc
  exact free _ o (fun z=>(hch _ z).2.1 rfl) ho I.free
 ·obtain⟨v,o,ho,hd⟩:=I.cell x c e
  exact free c o (fun z=>(hch c z).2.2.1 x c e rfl) ho (I.freeC x c e)
 ·obtain⟨e,n,ne,nf,d⟩:=I.pin p hp
  have nch:p.1∉ch:=fun z=>(hch p.1 z).2.2.2 p hp rfl;exact⟨keep p.1 p.2 ne nf nch e n,free p.1 p.2 nch e n,ne,nf,d⟩
theorem Inv.callN {g':Array GenState} {t':Nat} {d':Drawn} {ch:List Addr} (I:Inv X pins σ H s) (u:Un (Xj X.stack) ch H H' s.heap h') (hok:HOk X.prog X.w H' h') (hg:AllBare g')
  (hch:∀ b∈ch,(b∈X.ex\/X.s₀.heap.get? b=none)/\b≠X.env.locals/\(∀ x c,X.env.cells.lookup x=some c->c≠b)/\∀ p∈X.pn++pins,p.1≠b) :
  Inv X pins σ H' { s with heap:=h',gens:=g',drawn:=d',toks:=t' }:=by
 obtain⟨m,⟨o,es,ep,ho,r⟩,_⟩:=id I.loc;obtain⟨sl,hL⟩:=u.any ho I.free fun z=>(hch _ z).2.1 rfl;exact I.stepN (ch:=ch) hch (fun b o hL hb hc e n=>u.keep b o e n (fun z=>(zAp.mp (I.stkSub b z)).elim hL hb) hc) (fun b o _ _ hc e n=>u.any e n hc) (fun b o hc e n=>u.free b o e n hc) (fun b o hc e=>u.there b o e hc) u.tups u.frzs u.tbls (fun m' hm=>by
  obtain⟨o',es',ep',ho',r'⟩:=hm;rw[ho] at ho'; cases ho';exact⟨_,es',ep',hL,r'⟩) hok hg
theorem Ss {M:Model} {A':Around} {e:Addr} {oe:Obj} {vs:Array Value} {head ctx:Value} {hadNext:Bool} {E E':Value->Shared->Prop} {K:Unit->Shared->Prop} (I:Inv X pins σ H s) (hst:X.stack=X.env::X.outer) (hfr:X.env.frame=some X.env.locals)
  (he:s.heap.get? e=some oe) (hd:oe.data = .fields vs) (hz:1<vs.size) (h2:vs[2]?=some ctx) (fe:FxOk X pins H e)
  (h:∀ h',Inv X pins σ H { s with heap:=h' }->XOb h' e oe.cls oe.dict ctx (FxOk X pins H)->K () { s with heap:=h' }) :
  wpAny M X.A (do let a <- frameOf X.env; let pl <- entryPlaceOf X.env.locals hadNext; let b <- EntryCells.newEntry head a .none (rawInt X.env.locals) .none pl; setField (.ref e) 1 b)
   (fun _ s2=>wpAny M A' (setFlight (.ref e) none) K E' s2) E s:=by
 have hl:s.heap.FunFrames X.base (X.env::X.outer):=by rw[<- hst]; exact I.stack
 have hfs:X.A.frames=some (X.env::X.outer):=by rw[<- hst]; exact I.ok.frames
 have een:e∉(X.env::X.outer).filterMap (·.frame):=fun hb=>by
  have hb':e∈Xj X.stack:=by rw[hst]; exact hb
  rcases zAp.mp (I.stkSub e hb') with z | z
  ·exact fe.2.1 z
  ·exact fe.2.2.1 z
 refine zCt (wpAny_frameOf_fun hfs hl hfr fun h1 s1=>?_);refine zCt (wpAny_entryPlaceOf fun pl place=>?_);unfold EntryCells.newEntry;unfold newFields;refine zCt (wpAny_newObj_type ?_ (place.sizeOk5 _ _ _ _ _));have he1:h1.get? e=some oe:=(s1.2.1 e een).trans he;generalize hO:({ cls:=.type "traceback",dict:=none,data:=.fields ([head,.ref X.env.locals,.none,rawInt X.env.locals,.none]++(if pl.isEmpty then zAQ 6 Value.none else pl)).toArray }:Obj)=O;have dO:∃ ts,O.data = .fields ts/\3<ts.size:=by
  refine⟨_,by rw[<- hO],?_⟩;rw[zAd,zAi,zAl,zAl,zAl,zAl,zAl]
  lia
 obtain⟨ts,hts,hts3⟩:=dO;have he2:=zAc (h:=h1) O he1;refine wpAny_setField he2 hd hz ?_;have hTe:h1.objs.size≠e:=zAF (zAh he1);have hd3:=Obj.data_mapFields hd (fun z=>z.setIfInBounds 1 (Value.ref h1.objs.size));have he3:=zAX (Obj.mapFields fun z=>z.setIfInBounds 1 (Value.ref h1.objs.size)) he2 (Obj.isFreed_of_fields hd3);have hT3:((h1.push O).update e (Obj.mapFields fun z=>z.setIfInBounds 1 (Value.ref h1.objs.size))).get? h1.objs.size=some O:=
  (zAM _ _ (Ne.symm hTe)).trans (zAt h1 (by rw[<- hO]; rfl))
 unfold setFlight;refine zCt (wpAny_field he3 hd3 (x:=.ref h1.objs.size) (by simp [hz]) ?_);rw[if_pos (show (Value.ref h1.objs.size != .none)=true by simp)];refine wpAny_setField hT3 hts hts3 ?_;generalize hF:((h1.push O).update e (Obj.mapFields fun z=>z.setIfInBounds 1 (Value.ref h1.objs.size))).update h1.objs.size (Obj.mapFields fun z=>z.setIfInBounds 3 ((none:Option Addr).elim Value.none fun f=>rawInt f))=h4;have keep:∀ b o,b≠e->h1.get? b=some o->h4.get? b=some o:=fun b o hbe hb=>by
  have hbT:h1.objs.size≠b:=zAF (zAh hb);rw[<- hF,zAM _ _ hbT,zAM _ _ (Ne.symm hbe)];exact zAc _ hb
 have he4:h4.get? e=some (Obj.mapFields (fun z=>z.setIfInBounds 1 (Value.ref h1.objs.size)) oe):=by
  rw[<- hF,zAM _ _ hTe];exact he3
 have hd5:=Obj.data_mapFields hts (fun z=>z.setIfInBounds 3 ((none:Option Addr).elim Value.none fun f=>rawInt f));have hT4:h4.get? h1.objs.size=some (Obj.mapFields (fun z=>z.setIfInBounds 3 ((none:Option Addr).elim Value.none fun f=>rawInt f)) O):=by
  rw[<- hF];exact zAX _ hT3 (Obj.isFreed_of_fields hd5)
 have u:Un (Xj X.stack) [e] H H s.heap h4:=by
  refine⟨fun b o q _ hb hx=>keep b o (by simpa using hx) ((s1.2.1 b ?_).trans q),fun b o q _ _ hx=>?_,fun _ _ _ n _=>n,fun b o q hx=>?_,fun _ _ q=>q,fun _ _ _ q=>q,fun b ps q=>⟨#[],by rw[q]; simp⟩⟩
  ·rw[hst] at hb
   exact hb
  ·obtain⟨sl,z⟩:=s1.2.2 b o q
   exact⟨sl,keep b _ (by simpa using hx) z⟩
  ·obtain⟨sl,z⟩:=s1.2.2 b o q
   exact⟨_,keep b _ (by simpa using hx) z⟩
 have hok:HOk X.prog X.w H h4:=fun b o z=>(I.hok b o z).stay (fun c v hc q=>by
  have hs:∃ w,H c=some w:=by
   rcases hc with r | r
   ·exact⟨o,by rw[r]; exact z⟩
   ·exact⟨_,r⟩
  obtain⟨w,hw⟩:=hs;refine keep c v (fun y=>?_) ((s1.2.1 c fun y=>?_).trans q)
  ·rw[y,fe.1] at hw; cases hw
  ·have n:=I.stkFree c (by rw[hst]; exact y)
   rw[hw] at n; cases n) (fun _ q=>q) fun _ _ q=>q
 have I4:Inv X pins σ H { s with heap:=h4 }:=I.callN (g':=s.gens) (d':=s.drawn) (t':=s.toks) (ch:=[e]) u hok I.bare fun b hb=>by
  have z:b=e:=by simpa using hb
  subst z;exact⟨fe.2.2.2.1,fe.2.1,fe.2.2.2.2.1,fe.2.2.2.2.2⟩
 have gT:s.heap.get? h1.objs.size=none:=zBR (by rw[s1.1]; exact zAf _);have nT:H h1.objs.size=none:=I.hok.fresh (by rw[s1.1]; exact zAf _);refine h h4 I4 ⟨_,_,he4,Obj.cls_mapFields _ _,?_,hd3,by simpa using hz,?_,fe,.inr ⟨h1.objs.size,_,_,by simp [hz],hTe,hT4,hd5,?_,I.fxOk gT nT⟩⟩
 ·obtain⟨c0,d0,dt,sl⟩:=oe
  cases dt <;> rfl
 ·rw[Array.getElem?_setIfInBounds_ne (by decide)]
  exact h2
 ·rw[Array.getElem?_setIfInBounds_self_of_lt hts3]
  rfl
theorem So {M:Model} {A':Around} {e:Addr} {c ctx:Value} {d:Option Addr} {E E':Value->Shared->Prop} {K:Unit->Shared->Prop} (I:Inv X pins σ H s) (hst:X.stack=X.env::X.outer) (hfr:X.env.frame=some X.env.locals)
  (x:XOb s.heap e c d ctx (FxOk X pins H)) (h:∀ h',Inv X pins σ H { s with heap:=h' }->XOb h' e c d ctx (FxOk X pins H)->K () { s with heap:=h' }) :
  wpAny M X.A (noteFrame (.ref e) X.env) (fun _ s2=>wpAny M A' (setFlight (.ref e) none) K E' s2) E s:=by
 obtain⟨oe,vs,he,hc,hdd,hd,hz,h2,fe,ht⟩:=x;subst hc hdd;unfold noteFrame;simp only [hfr];rcases ht with h1 | ⟨T,oT,ts,h1,hTe,hT,hdT,h3,fT⟩
 ·refine zCt (wpAny_field he hd h1 ?_)
  rw[if_neg (show ¬ (Value.none != .none)=true by decide)];exact Ss I hst hfr he hd hz h2 fe h
 ·refine zCt (wpAny_field he hd h1 ?_)
  rw[if_pos (show (Value.ref T != .none)=true by simp)];refine zCt (wpAny_field hT hdT h3 ?_);rw[if_neg (show ¬ (Value.none==rawInt X.env.locals)=true by simp [rawInt])];refine zCt (wpAny_setField hT hdT (Array.getElem?_eq_some_iff.mp h3).1 ?_);rw[Heap.update_setField_same s.heap T oT ts 3 .none hT hdT h3];exact Ss I hst hfr he hd hz h2 fe h
theorem Zi {M:Model} {A':Around} {e:Addr} {c ctx:Value} {d:Option Addr} {E':Value->Shared->Prop} {K:Unit->Shared->Prop} {fx:Addr->Prop} (x:XOb s.heap e c d ctx fx) (h:K () s):wpAny M A' (setFlight (.ref e) none) K E' s:=by
 obtain⟨oe,vs,he,hc,hdd,hd,hz,h2,fe,ht⟩:=x;unfold setFlight;rcases ht with h1 | ⟨T,oT,ts,h1,hTe,hT,hdT,h3,fT⟩
 ·refine zCt (wpAny_field he hd h1 ?_)
  rw[if_neg (show ¬ (Value.none != .none)=true by decide)];exact zCu h
 ·refine zCt (wpAny_field he hd h1 ?_)
  rw[if_pos (show (Value.ref T != .none)=true by simp)];refine wpAny_setField hT hdT (Array.getElem?_eq_some_iff.mp h3).1 ?_;show K () { s with heap:=s.heap.update T (Obj.mapFields fun z=>z.setIfInBounds 3 .none) };rw[Heap.update_setField_same s.heap T oT ts 3 .none hT hdT h3];exact h
end
def P5 (P:Program) (w:World):G9:=fun outer H s E v s'=>∃ e c d ctx H',v = .ref e/\s'.os=s.os/\AllBare s'.gens/\Un (Xj outer) [] H H' s.heap s'.heap/\HOk P w H' s'.heap /\
 XOb s'.heap e c d ctx (fun b=>s.heap.get? b=none/\H' b=none)/\E c d H'
def Wish (X:Cx) (W:St->XK):Prop:=∀ (pins:List (Addr×Obj)) (σ:St) (H:Hp) (s:Shared) (e:Addr) (c:Value) (d:Option Addr) (ctx:Value),Inv X pins σ H s->XOb s.heap e c d ctx (FxOk X pins H)->W σ c d H->X.xe (.ref e) s
theorem Wish.pass {X:Cx} {W:St->XK} {pins:List (Addr×Obj)} {σ:St} {H:Hp} {s s':Shared} {v:Value} (hW:Wish X W) (I:Inv X pins σ H s) (h:P5 X.prog X.w X.stack H s (W σ) v s'):X.xe v s':=by
 obtain⟨e,c,d,ctx,H',rfl,os,bare,un,hok,x,hw⟩:=h;exact hW pins σ H' s' e c d ctx (I.call' os un hok bare fun b z=>absurd z (by simp)) (x.imp fun b q=>I.fxOk q.1 q.2) hw
theorem On {P:Program} {w:World} {K:zAa} {mg:Str->Option Value} {base:Heap} {N:List Str} {qual:Str} {scope:Scope} {f:Addr} {cd:Value} {A:Around} {outer:List Env} {s0:Shared} {H0:Hp} {E:XK} :
  Wish (Oe (P5 P w) P w K mg base N qual scope f cd A outer s0 H0 E) (fun _=>E):=by
 intro pins σ H s e c d ctx I x hw;show wpAny _ _ (leaving _ (.ref e)) _ _ s;unfold leaving;refine zCt (So I rfl rfl x fun h' I' x'=>?_);refine⟨e,c,d,ctx,H,rfl,I'.os,I'.bare,I'.base,I'.hok,x'.imp fun b fb=>⟨?_,fb.1⟩,hw⟩;rcases fb.2.2.2.1 with z | z
 ·exact nomatch (show b∈([]:List Addr) from z)
 ·exact z
def DQ (sp:Sp) (W:St->XK) (t:TA):TE:=fun σ H Q=>t σ H fun vs H1=>sp vs H1 Q (W σ)
structure Zm (P:Program) (w:World) (K:zAa) (mg:Str->Option Value) (base:Heap) (k:Nat) (x:Str) (ps:List Str) (sp:Sp):Prop where
 ex:∃ f fd,FnOk P w K mg base (P5 P w) k f fd ps sp/\Binds K fd ps []/\zAT K (.ref f)=true/\mg x=some (.ref f)
theorem Def.calX {P:Program} {w:World} {K:zAa} {mg:Str->Option Value} {base:Heap} {k:Nat} {x:Str} {st:Stmt} {ps:List Str} {sp:Sp} (D:Def K mg x st ps) (h:∀ f fd,Fun K x x st f fd->FnOk P w K mg base (P5 P w) k f fd ps sp):Zm P w K mg base k x ps sp:=by
 obtain⟨f,fd,F,b,m⟩:=D.ex;exact⟨f,fd,h f fd F,b,F.kp,m⟩
section
variable {X:Cx} {k:Nat} {f:Addr} {fd:zCx} {ps:List Str} {sp:Sp} {x:Str} {p pos:Pos} {e:Expr} {es:List Expr} {t:TA} {W:St->XK}
theorem AJ {pins:List (Addr×Obj)} {σ:St} {H:Hp} {s:Shared} {Q:VK} {us:List Value} {vs:List V} (F:FnOk X.prog X.w X.K X.mg X.base (P5 X.prog X.w) k f fd ps sp) (hr:Room k X.A) (hb:Binds X.K fd ps []) (hW:Wish X W)
  (I:Inv X pins σ H s) (r:Vals vs us) (h:sp vs H Q (W σ)):wpAny (model X.prog X.w) X.A (call (.ref f) us) (EP X pins σ Q) X.xe s:=by
 have hl:(us++[]).length=ps.length:=by rw[zAJ,<- r.length]; exact F.len _ _ _ _ h
 have b:=hb s us I.kIn hl;rw[zAJ] at b;refine wpAny_call (codeAny_mono (F.run X.A X.stack s H ⟨us,[]⟩ us vs Q (W σ) hr I.env0 b r h) fun q s' hq=>?_);cases q with
 | error v=>exact hW.pass I hq
 | ok fl=>
  cases fl with
  | ret u=>exact I.after hq
  | next=>exact False.elim hq
  | brk=>exact False.elim hq
  | cont=>exact False.elim hq
theorem Pq (C:Zm X.prog X.w X.K X.mg X.base k x ps sp) (hr:Room k X.A) (hW:Wish X W) (hg:Gl X x) (ha:PA X (e::es) t)
  (hdb:(x==("__debug__" : Str))=false:=by decide) (he:starEach (e::es) X.env=(false,eval e X.env)::starEach es X.env:=by rfl) (hpl:(backTo pos (starEach es X.env)).any (·.1)=false:=by rfl) :
  PE X (.Call (.Name x p) (e::es) [] pos) (DQ sp W t):=by
 intro pins s σ H Q I h;obtain⟨f,fd,F,b,kp,hm⟩:=C.ex;refine wpAny_Call_Name_kw (Gh I hg hm ?_ hdb);refine zBL (h₀ := X.base) I.ok.mod.kin kp (Ca (ha pos pins s σ H _ I h) fun us s1 ⟨vs,H1,I1,r,q⟩=>⟨I1.kIn,?_⟩) he hpl;exact AJ F hr b hW I1 r q
end
theorem Fun.okX {P:Program} {w:World} {K:zAa} {mg:Str->Option Value} {base:Heap} {x qual:Str} {st:Stmt} {f:Addr} {fd:zCx} {N ps:List Str} {k:Nat} {sp:Sp} (F:Fun K x qual st f fd) (S:Aw N ps (Ar st)) (len:∀ vs H Q E,sp vs H Q E->vs.length=ps.length)
  (hbody:∀ (cdv:Value) (A:Around) (outer:List Env) (s:Shared) (H:Hp) (vs:List V) (Q:VK) (E:XK),Room k (A.deeper (envOfC qual (Ar st) s.heap.objs.size f cdv))->sp vs H Q E ->
   ∃ t,PSs (Oe (P5 P w) P w K mg base N qual (Ar st) f cdv A outer s H E) (Ce st) t/\t { nx:=fun _ H'=>Q .non H',rt:=Q } (Gx N vs) H):FnOk P w K mg base (P5 P w) (k+1) f fd ps sp:=by
 obtain⟨oc,od,kV,doc,pm,an,cdv,ct,osl,rfl,lk,hcd⟩:=F.ex;exact P6 lk hcd S len fun A outer s H vs Q E hr hsp=>hbody cdv A outer s H vs Q E hr hsp
structure CZ (K:zAa) (x:Str) (mg:Str->Option Value) (C:Addr):Prop where
 at_:mg x=some (.ref C)
 ex:∃ bm newId initId B,zCn K C bm newId=true/\ExcBaseFacts B newId initId bm
set_option tactic.hygienic true in
theorem AH {K:zAa} {h:Heap} {C:Addr} {bmB:List Value} {newId:String} (X:K.In h) (q:zCn K C bmB newId=true) :
  ∃ bm N nm qn bs hdct sn sub ab col dd k0 k1 k2 k3 k5 mN,h.get? C=some (excClassObj nm qn C N bs bm hdct sn sub ab col dd k0 k1 k2 k3 k5 newId)/\h.Ns N mN/\mN "__init__" = none/\OwnTail h bmB bm:=by
 unfold zCn at q
 split at q
 ·rename_i dd cd sl lk
  split at q
  ·rename_i C1 bm k0 k1 k2 k3 n k5 hm hsl
   simp only [zBt,beq_iff_eq,Bool.not_eq_true'] at q;obtain⟨⟨⟨⟨⟨e1,e2⟩,hdel⟩,ht⟩,hns⟩,hni⟩:=q;subst e1 e2;obtain⟨nm,bs,mro,ns,qn,hd,sn,sub,ab,col,del⟩:=cd;simp only at hm hdel hns hni;subst hm hdel;obtain⟨l⟩:=sl;simp only at hsl;subst hsl;exact⟨bm,ns,nm,qn,bs,hd,sn,sub,ab,col,dd,k0,k1,k2,k3,k5,_,X _ _ lk,.of_isNs (PySem.W.isNs_of_in X hns),PySem.W.nsMap_none_of_in X hns hni,PySem.W.tail_of_in X ht⟩
  ·cases q
 ·cases q
def EC (C:Addr) (W:St->XK) (t:TA):TS:=fun _ σ H=>t σ H fun vs H1=>vs.length<=sizeLine/\W σ (.ref C) none H1
theorem Qe {X:Cx} {x:Str} {C:Addr} {W:St->XK} {t:TA} {e:Expr} {es:List Expr} {np cpos pos:Pos} (hW:Wish X W) (hc:X.calm=true) (XC:CZ X.K x X.mg C) (hg:Gl X x) (ha:PA X (e::es) t)
  (hdb:(x==("__debug__" : Str))=false:=by decide) (he:starEach (e::es) X.env=(false,eval e X.env)::starEach es X.env:=by rfl) (hpl:(backTo cpos (starEach es X.env)).any (·.1)=false:=by rfl) :
  PS X (.Raise (some (.Call (.Name x np) (e::es) [] cpos)) none pos) (EC C W t):=by
 intro pins s σ H D I h;obtain⟨bmB,newId,initId,B,q,FB⟩:=XC.ex;obtain⟨bm,N,nm,qn,bs,hdct,sn,sub,ab,col,dd,k0,k1,k2,k3,k5,mN,hC,hN,hni,T⟩:=AH I.mod.kin q;refine wpAny_Raise_call_subT (C:=C) (nm:=nm) (q:=qn) (N:=N) (bs:=bs) (bm:=bm) (hdct:=hdct) (sn:=sn) (sub:=sub) (ab:=ab) (col:=col) (dd:=dd) (k0:=k0) (k1:=k1) (k2:=k2) (k3:=k3) (k5:=k5) FB (mN:=mN)
  (T.hasType FB.hasBase) (I.ok.hd hc) ?_ hni (Gh I hg XC.at_ ⟨rfl,?_⟩ hdb)
 ·rw[he]
  show (false||(backTo cpos (starEach es X.env)).any (·.1))=false;rw[hpl];rfl
 have ha':=ha cpos pins s σ H _ I h;rw[he] at ha' ⊢;refine Calls.evalArgs_plain (Ca ha' fun us s1 ⟨vs,H1,I1,r,hl,hw⟩=>⟨rfl,by rw[<- r.length]; exact hl,I1.bk _ _ hC,hN.keeps I1.bk,T.keeps I1.bk,fun h' ex hm=>?_⟩);obtain⟨t0,ht,htn,_⟩:=hm.there;have nH:H1 ex=none:=by
  cases z:H1 ex with
  | none=>rfl
  | some o=>
   obtain⟨ob,eo⟩:=(I1.hok ex o z).is;rw[hm.new] at eo;cases eo
 exact hW pins σ H1 { s1 with heap:=h' } ex (.ref C) none .none (I1.kept (t':=s1.toks) hm.keeps) ⟨_,_,ht,rfl,rfl,rfl,(show (1:Nat)<6 from by decide),rfl,I1.fxOk hm.new nH,.inl rfl⟩ hw
abbrev Cx.tr (X:Cx) (pn:List (Addr×Obj)) (E:Value->Shared->Prop):Cx:={ X with pn:=pn,xe:=E }
abbrev Cx.sup (X:Cx) (e:Addr):Cx:={ X with A:=X.A.mark (some (.ref e)),calm:=false,xe:=fun _ _=>False }
section
variable {X:Cx} {pins pins' pn:List (Addr×Obj)} {σ:St} {H:Hp} {s:Shared} {E:Value->Shared->Prop} {e:Addr}
theorem Cx.Ok.tr (ok:X.Ok):(X.tr pn E).Ok:=⟨ok.mod,ok.kind,ok.glob,ok.blt,ok.above,ok.inj,ok.has,ok.cab,ok.hd,ok.frames,ok.stk,ok.exf,ok.bs,ok.bsz,ok.noex,ok.exfs,ok.funs,ok.frf⟩
theorem Cx.Ok.untr (ok:(X.tr pn E).Ok):X.Ok:=⟨ok.mod,ok.kind,ok.glob,ok.blt,ok.above,ok.inj,ok.has,ok.cab,ok.hd,ok.frames,ok.stk,ok.exf,ok.bs,ok.bsz,ok.noex,ok.exfs,ok.funs,ok.frf⟩
theorem Inv.tr (I:Inv X pins σ H s):Inv (X.tr (X.pn++pins) E) [] σ H s:=⟨I.ok.tr,I.os,I.bare,I.base,I.loc,I.cell,I.free,I.freeC,fun p hp=>I.pin p (by simpa using hp),I.hok,I.len⟩
theorem Inv.untr (I:Inv (X.tr (X.pn++pins) E) pins' σ H s):Inv X pins σ H s:=⟨I.ok.untr,I.os,I.bare,I.base,I.loc,I.cell,I.free,I.freeC,fun p hp=>I.pin p (zBl _ hp),I.hok,I.len⟩
theorem FxOk.untr {b:Addr} (f:FxOk (X.tr (X.pn++pins) E) pins' H b):FxOk X pins H b:=⟨f.1,f.2.1,f.2.2.1,f.2.2.2.1,f.2.2.2.2.1,fun p hp=>f.2.2.2.2.2 p (zBl _ hp)⟩
theorem SP.untr {D:Jm} {f:Flow} (h:SP (X.tr (X.pn++pins) E) pins' D f s):SP X pins D f s:=by
 cases f with
 | next=>obtain⟨σ',H',I,q⟩:=h; exact⟨σ',H',I.untr,q⟩
 | brk=>obtain⟨σ',H',I,q⟩:=h; exact⟨σ',H',I.untr,q⟩
 | cont=>obtain⟨σ',H',I,q⟩:=h; exact⟨σ',H',I.untr,q⟩
 | ret u=>obtain⟨v,σ',H',I,r,q⟩:=h; exact⟨v,σ',H',I.untr,r,q⟩
theorem Cx.Ok.sup (ok:X.Ok):(X.sup e).Ok:=⟨ok.mod,ok.kind,ok.glob,ok.blt,ok.above,ok.inj,ok.has,ok.cab,(fun z=>nomatch z),ok.frames,ok.stk,ok.exf,ok.bs,ok.bsz,ok.noex,ok.exfs,ok.funs,ok.frf⟩
theorem Inv.sup (I:Inv X pins σ H s):Inv (X.sup e) pins σ H s:=⟨I.ok.sup,I.os,I.bare,I.base,I.loc,I.cell,I.free,I.freeC,I.pin,I.hok,I.len⟩
theorem Inv.unsup (I:Inv (X.sup e) pins σ H s) (ok:X.Ok):Inv X pins σ H s:=⟨ok,I.os,I.bare,I.base,I.loc,I.cell,I.free,I.freeC,I.pin,I.hok,I.len⟩
def Yo (e:Addr) (c:Value) (d:Option Addr):HO:=.ext fun h=>∃ oe vs,h.get? e=some oe/\oe.cls=c/\oe.dict=d/\oe.data = .fields vs
theorem Inv.track {c:Value} {d:Option Addr} {oe:Obj} {vs:Array Value} (I:Inv X pins σ H s) (fe:FxOk X pins H e) (he:s.heap.get? e=some oe) (hc:oe.cls=c) (hdd:oe.dict=d) (hd:oe.data = .fields vs) :
  Inv X pins σ (upd H e (Yo e c d)) s:=by
 have ne:∀ b u,H b=some u->b≠e:=fun b u q=>Ap q fe.1;refine⟨I.ok,I.os,I.bare,⟨I.base.keep,I.base.slot,fun b o q n hx=>?_,I.base.there,fun b xs q=>?_,fun b o u q=>?_,fun b ps q=>?_⟩,I.loc,I.cell,?_,fun x c q=>?_,fun p hp=>?_,fun b u q=>?_,I.len⟩
 ·rw[Aq]
  ·exact I.base.free b o q n hx
  ·rintro rfl
   rcases fe.2.2.2.1 with z | z
   ·exact hx z
   ·rw[q] at z; cases z
 ·have z:=I.base.tups b xs q
  rw[Aq (ne _ _ z)]; exact z
 ·have z:=I.base.frzs b o u q
  rw[Aq (ne _ _ z)]; exact z
 ·obtain⟨m,z⟩:=I.base.tbls b ps q
  exact⟨m,by rw[Aq (ne _ _ z)]; exact z⟩
 ·rw[Aq (Ne.symm fe.2.1)]; exact I.free
 ·rw[Aq (fe.2.2.2.2.1 x c q)]; exact I.freeC x c q
 ·obtain⟨a1,a2,a3,a4,a5⟩:=I.pin p hp
  exact⟨a1,by rw[Aq (fe.2.2.2.2.2 p hp)]; exact a2,a3,a4,a5⟩
 ·by_cases z:b=e
  ·subst z
   rw[Af] at q;cases q;refine⟨⟨oe,vs,he,hc,hdd,hd⟩,⟨oe,he⟩,fun h1 h2 p k=>?_⟩;obtain⟨o1,v1,p1,p2⟩:=p;exact⟨o1,v1,k _ p1,p2⟩
  ·rw[Aq z] at q
   exact (I.hok b u q).stay (fun _ _ _ y=>y) (fun c y=>by rw[Aq (ne _ _ y)]; exact y) fun c xs y=>by rw[Aq (ne _ _ y)]; exact y
theorem Inv.forget {h':Heap} {m':Str->Option Value} {t':Nat} (I:Inv X pins σ H s) (hn:h'.Ns X.env.locals m') (hs:zBc X.env.locals s.heap h'):Inv X pins (σ.map fun _=>none) H { s with heap:=h',toks:=t' }:=by
 have ne0:∀ b o,X.s₀.heap.get? b=some o->b≠X.env.locals:=fun b o q=>zAm (zAq (zAh q) I.ok.above);refine⟨I.ok,I.os,I.bare,⟨fun b o q n hb hx=>?_,fun b o q n hb hx=>?_,I.base.free,fun b o q hx=>?_,I.base.tups,I.base.frzs,I.base.tbls⟩,⟨m',hn,fun i x v _ e2 _=>?_⟩,fun x c q=>?_,I.free,I.freeC,fun p hp=>?_,fun b u q=>?_,by simpa using I.len⟩
 ·exact (hs.2 b (ne0 b o q)).trans (I.base.keep b o q n hb hx)
 ·obtain⟨sl,z⟩:=I.base.slot b o q n hb hx
  exact⟨sl,(hs.2 b (ne0 b o q)).trans z⟩
 ·obtain⟨o',z⟩:=I.base.there b o q hx
  exact⟨o',(hs.2 b (ne0 b o q)).trans z⟩
 ·rw[zAu] at e2
  cases z:σ[i]? with
  | none=>rw[z] at e2; cases e2
  | some y=>rw[z] at e2; cases e2
 ·obtain⟨v,z⟩:=I.cell x c q
  exact⟨v,z.sameBut hs (I.cne x c q)⟩
 ·obtain⟨a1,a2,a3,a4,a5⟩:=I.pin p hp
  exact⟨(hs.2 p.1 a3).trans a1,a2,a3,a4,a5⟩
 ·refine (I.hok b u q).stay (fun c v hc y=>(hs.2 c fun z=>?_).trans y) (fun _ y=>y) fun _ _ y=>y
  rcases hc with r | r
  ·rw[<- r,z,I.free] at q; cases q
  ·rw[z,I.free] at r; cases r
end
def GH (K:zAa) (Ch:Addr) (i:Nat) (tb:(St->XK)->TS) (ts:TS):TS:=fun D σ H=>tb (fun σ' c d H'=>∃ C,c = .ref C/\zCg K (.ref C) (.ref Ch)=some true /\
 ∀ e,H' e=none->ts { nx:=fun σ H=>D.nx (σ.map fun _=>none) H,rt:=D.rt,bk:=fun σ H=>D.bk (σ.map fun _=>none) H,ct:=fun σ H=>D.ct (σ.map fun _=>none) H } (σ'.set i (some (.ref e))) (upd H' e (Yo e c d))) D σ H
section
variable {X:Cx} {x n:Str} {Ch:Addr} {i:Nat} {body suite:List Stmt} {b₀ : Stmt} {tb:(St->XK)->TS} {ts:TS} {np hpos pos:Pos}
theorem Ye {M:Model} {h:Heap} {e:Addr} {c:Value} {oe:Obj} (he:h.get? e=some oe) (hc:oe.cls=c):PySem.W.Looks M h (typeOf (.ref e)) c:=hc▸(PySem.W.Looks.ld he).andThen .now
theorem AZ (hst:X.stack=X.env::X.outer) (hfr:X.env.frame=some X.env.locals) (hg:Gl X x) (hm:X.mg x=some (.ref Ch)) (hN:X.N.Nodup) (hi:X.N[i]?=some n) (hl:X.env.kindOf n=some .local)
  (hb:∀ pn E W,Wish (X.tr pn E) W->PassesOwn (model X.prog X.w) X.A X.env E->PSs (X.tr pn E) body (tb W)) (hs:∀ e,PSs (X.sup e) (b₀ :: suite) ts) (hdb:(x==("__debug__" : Str))=false:=by decide) :
  PS X (.Try body [.ExceptHandler (some (.Name x np)) (some n) (b₀ :: suite) hpos] [] [] pos) (GH X.K Ch i tb ts):=by
 intro pins s σ H D I h;refine wpAny_Try_except ?_;refine wpAny_mono (hb (X.pn++pins) _ _ ?_ ?_ [] s σ H D I.tr h) (fun f s1 q=>?_) fun e s1 q=>q
 ·intro pins' σ' H' s' e c d ctx I' x' hw
  obtain⟨C,rfl,hx,hq⟩:=hw;have I1:Inv X pins σ' H' s':=I'.untr;refine So I1 hst hfr (x'.imp fun b fb=>fb.untr) fun h2 I2 x2=>?_;obtain⟨oe,vs,he,hc,hdd,hd,_,_,fe,_⟩:=id x2;refine wpAny_handleBy_cons (codeAny_handlers_test (Gh (I2.sup (e:=e)) hg hm ?_ hdb)) (by intro q; cases q);refine (PySem.W.exm_one I2.kIn (Ye he hc) hx).here ?_;refine codeAny_handlers_suite_as (Zi x2 ?_);have I3:=(I2.track fe he hc hdd hd).sup (e:=e);refine Qi (X:=X.sup e) I3 hN hi (.inl hl) (v:=.ref e) rfl (fun s4 I4=>?_) (.inr hl);refine wpAny_mono (hs e pins s4 _ _ _ I4 (hq e fe.1)) (fun f s5 q5=>?_) fun _ _ z=>False.elim z;have go:∀ {σ5:St} {H5:Hp} {R:Unit->Shared->Prop} {E5:Value->Shared->Prop},Inv (X.sup e) pins σ5 H5 s5->(∀ s6,Inv X pins (σ5.map fun _=>none) H5 s6->R () s6) ->
    wpAny (model X.prog X.w) X.A (do bindName X.env n .none; unbindBehindTheSuite X.env n hpos) R E5 s5:=fun {σ5 H5 R E5} I5 hR=>by
   obtain⟨m5,hn5,_⟩:=I5.loc;refine wpAny_nameGoes hl hn5 ?_ fun h6 m6 hn6 hs6=>hR _ ((I5.unsup I2.ok).forget hn6 hs6);rw[I2.ok.kind];rfl
  cases f with
  | next=>obtain⟨σ5,H5,I5,q⟩:=q5; exact go I5 fun s6 I6=>⟨_,_,I6,q⟩
  | brk=>obtain⟨σ5,H5,I5,q⟩:=q5; exact go I5 fun s6 I6=>⟨_,_,I6,q⟩
  | cont=>obtain⟨σ5,H5,I5,q⟩:=q5; exact go I5 fun s6 I6=>⟨_,_,I6,q⟩
  | ret u=>obtain⟨v5,σ5,H5,I5,r5,q⟩:=q5; exact go I5 fun s6 I6=>⟨v5,_,_,I6,r5,q⟩
 ·exact PassesOwn.looking
 ·have q':=q.untr
  cases f with
  | next=>exact wpAny_execs_nil q'
  | brk=>exact q'
  | cont=>exact q'
  | ret u=>exact q'
end
section
variable {X:Cx} {k:Nat} {f:Addr} {fd:zCx} {ps:List Str} {sp:Sp} {x:Str} {p pos:Pos} {e:Expr} {es:List Expr} {t:TA}
end
def tx (l:List Nat):Str:=⟨l.toArray⟩
theorem U1 (l:List Nat):(tx l).cps.toList=l:=rfl
theorem Mn (l:List Nat):(tx l).length=l.length:=by simp [tx,Str.length]
theorem GL (x:Str):tx x.cps.toList=x:=by cases x; rfl
theorem DG {l m:List Nat} (h:tx l=tx m):l=m:=by
 have e:=congrArg (fun z:Str=>z.cps.toList) h;exact e
theorem EW (l m:List Nat):tx l++tx m=tx (l++m):=by
 show (⟨l.toArray++m.toArray⟩:Str)=⟨(l++m).toArray⟩;rw[List.append_toArray]
def Sx (c:Nat):List Nat->List (List Nat)
 | []=>[[]]
 | x::l=>if x=c then []::Sx c l else match Sx c l with
  | []=>[[x]]
  | p::r=>(x::p)::r
theorem GC (c:Nat):∀ l,Sx c l≠[]
 | []=>by simp [Sx]
 | x::l=>by
  unfold Sx
  split
  ·simp
  ·cases Sx c l <;> simp
section
variable {X:Cx}
theorem O0:Jq X (compareOp .NotIn) (fun x y H Q=>∃ c z,x = .str (tx [c])/\y = .str z/\Q (.bl (!decide (c∈z.cps.toList))) H):=by
 intro pins s σ H x y v u Q I rx ry h;obtain⟨c,z,rfl,rfl,q⟩:=h;refine Uw pins s σ H _ _ v u Q I rx ry ⟨tx [c],z,rfl,rfl,?_⟩;rw[show (!(Builtin.Str.occurrences z (tx [c]) 0 z.length 1).isEmpty)=decide (c∈z.cps.toList) from StrLaws.found_one z c];exact q
def FN (x:Str):It:=⟨fun i _=>i<x.cps.size,fun i H v H'=>H'=H/\∃ c,x.cps[i]?=some c/\v = .str (tx [c]),fun i _=>x.cps.size<=i⟩
theorem N8 {P:Program} {w:World} {K:zAa} {tg:Expr} (x:Str) (t:Tok) (it:Addr):Wa P w K tg (FN x) [it] it (fun i h=>h.IsStrIter it "str_ascii_iterator" x t i) where
 mem:=by simp
 obj:=fun i h st b hb=>by
  have e:b=it:=by simpa using hb
  subst e;obtain⟨o,e,c,d⟩:=st;exact⟨o,e,fun v z=>by rw[d] at z; cases z⟩
 keep:=fun i h h' st k=>by
  obtain⟨o,e,c,d⟩:=st;exact⟨o,k it (by simp) o e,c,d⟩
 item:=by
  intro X hP hw hK hc i pins s σ H E I hf st hg;subst hP hw hK;obtain⟨f0,f1,f2,f3,f4,f5⟩:=hf it (by simp);have hi:i<x.cps.size:=hg;refine wpAny_pyNext_ascii_item st (c:=x.cps[i]) (by simp [hi]) fun h' st' sb=>?_;have I1:Inv X pins σ H { s with heap:=h',toks:=s.toks+1 }:=I.turned (fun b o hb e=>(sb.2 b hb).trans e) f0 f1 f3 f4 f5;obtain⟨o,e,c,d⟩:=id st';exact⟨_,rfl,F5 (s:={ s with heap:=h',toks:=s.toks+1 }) e c d (by decide) ⟨.str (tx [x.cps[i]]),H,I1,⟨_,rfl⟩,⟨rfl,_,by simp [hi],rfl⟩,st',fun b hb=>(hf b hb).1⟩⟩
 done:=by
  intro X hP hw hK hc i pins s σ H E I hf st hg;subst hP hw hK;obtain⟨f0,f1,f2,f3,f4,f5⟩:=hf it (by simp);have hi:x.cps.size<=i:=hg;exact wpAny_pyNext_ascii_end (I.ok.hd hc) st (by simp; lia) fun h' eb=>⟨rfl,I.turned (t':=s.toks) (fun b o hb e=>eb b o hb e) f0 f1 f3 f4 f5⟩
 self:=fun _ _ _ _ _ st h=>wpAny_pyIter_striter_ascii st h
theorem L4 {P:Program} {w:World} {K:zAa} {tg:Expr} (x:Str) (t:Tok) (it:Addr):Wa P w K tg (FN x) [it] it (fun i h=>h.IsStrIter it "str_iterator" x t i) where
 mem:=by simp
 obj:=fun i h st b hb=>by
  have e:b=it:=by simpa using hb
  subst e;obtain⟨o,e,c,d⟩:=st;exact⟨o,e,fun v z=>by rw[d] at z; cases z⟩
 keep:=fun i h h' st k=>by
  obtain⟨o,e,c,d⟩:=st;exact⟨o,k it (by simp) o e,c,d⟩
 item:=by
  intro X hP hw hK hc i pins s σ H E I hf st hg;subst hP hw hK;obtain⟨f0,f1,f2,f3,f4,f5⟩:=hf it (by simp);have hi:i<x.cps.size:=hg;refine wpAny_pyNext_wide_item st (c:=x.cps[i]) (by simp [hi]) fun h' st' sb=>?_;have I1:Inv X pins σ H { s with heap:=h',toks:=s.toks+1 }:=I.turned (fun b o hb e=>(sb.2 b hb).trans e) f0 f1 f3 f4 f5;obtain⟨o,e,c,d⟩:=id st';exact⟨_,rfl,F5 (s:={ s with heap:=h',toks:=s.toks+1 }) e c d (by decide) ⟨.str (tx [x.cps[i]]),H,I1,⟨_,rfl⟩,⟨rfl,_,by simp [hi],rfl⟩,st',fun b hb=>(hf b hb).1⟩⟩
 done:=by
  intro X hP hw hK hc i pins s σ H E I hf st hg;subst hP hw hK;obtain⟨f0,f1,f2,f3,f4,f5⟩:=hf it (by simp);have hi:x.cps.size<=i:=hg;exact wpAny_pyNext_wide_end (I.ok.hd hc) st (by simp; lia) fun h' eb=>⟨rfl,I.turned (t':=s.toks) (fun b o hb e=>eb b o hb e) f0 f1 f3 f4 f5⟩
 self:=fun _ _ _ _ _ st h=>wpAny_pyIter_striter_wide st h
def IM (tl:TE):TI:=fun σ H R=>tl σ H fun x H1=>∃ z,x = .str z/\R (FN z) H1
theorem DF {tg l:Expr} {tl:TE} (hl:PE X l tl):PI X tg l (IM tl):=by
 intro pins s σ H R I h;refine Ca (hl pins s σ H _ I h) fun v s1 ⟨x,H1,I1,r1,q1⟩=>?_;obtain⟨z,e,q⟩:=q1;subst e;obtain⟨t,rfl⟩:=r1;have fp:∀ b∈[s1.heap.objs.size],Iy X pins H1 b:=fun b hb=>by
  have e:b=s1.heap.objs.size:=by simpa using hb
  subst e;exact I1.fpOk (zAf _) (I1.hok.fresh (zAf _))
 cases ha:z.cps.all (· < 128) with
 | true=>exact wpAny_pyIter_ascii ha ⟨s1.heap.objs.size,[s1.heap.objs.size],_,_,H1,rfl,I1.kept (t':=s1.toks) fun b o e=>zAc _ e,N8 z t _,⟨_,zAt _ rfl,rfl,rfl⟩,fp,q⟩
 | false=>exact wpAny_pyIter_wide ha ⟨s1.heap.objs.size,[s1.heap.objs.size],_,_,H1,rfl,I1.kept (t':=s1.toks) fun b o e=>zAc _ e,L4 z t _,⟨_,zAt _ rfl,rfl,rfl⟩,fp,q⟩
theorem AF {l:List Nat} {g:TG} {tb:TS} {D:Jm} {σ:St} {H:Hp} (Pv:Nat->St->Hp->Prop) (h0:Pv 0 σ H)
  (hs:∀ i c σ H,l[i]?=some c->Pv i σ H->g (.str (tx [c])) σ H fun σ2 H2=>tb { D with nx:=Pv (i+1),ct:=Pv (i+1),bk:=D.nx } σ2 H2) (hd:∀ σ H,Pv l.length σ H->D.nx σ H) :
  ∃ W:Nat->Nat->St->Hp->Prop,(∃ m,W 0 m σ H)/\∀ i m σ H,W i m σ H ->
   ((FN (tx l)).stop i H/\D.nx σ H)\/((FN (tx l)).go i H/\∃ N:St->Hp->Prop,(∀ σ' H',N σ' H'->∃ m',m'<m/\W (i+1) m' σ' H')/\∀ x H',(FN (tx l)).yld i H x H'->g x σ H' fun σ2 H2=>tb { D with nx:=N,ct:=N,bk:=D.nx } σ2 H2):=by
 have hz:(tx l).cps.size=l.length:=by simp [tx]
 refine⟨fun i m σ H=>m=l.length-i/\i<=l.length/\Pv i σ H,⟨l.length,by simp,zAk _,h0⟩,?_⟩;rintro i m σ H ⟨rfl,hi,p⟩;by_cases hlt:i<l.length
 ·refine .inr ⟨by show i<(tx l).cps.size; lia,Pv (i+1),fun σ' H' p'=>⟨l.length-(i+1),by lia,rfl,hlt,p'⟩,fun x H' y=>?_⟩
  obtain⟨e,c,hc,y⟩:=y;subst e y;exact hs i c σ _ (by simpa [tx] using hc) p
 ·have e:i=l.length:=by lia
  subst e;exact .inl ⟨by show (tx l).cps.size<=l.length; lia,hd σ H p⟩
def IZ:V->Option Int->Option Int->Hp->VK->Prop:=fun x lo hi H Q=>∃ z,x = .str z/\z.length<=sizeLine/\Q (.str (Txt.slice z lo hi)) H
theorem FI:IX X IZ:=by
 intro pins s σ H x v vl vu lo hi sl Q I rx hs pl pu h;obtain⟨z,rfl,hz,q⟩:=h;obtain⟨t,rfl⟩:=rx;refine⟨"str",_,F.slot_str_getitem.lookup,typeIs_str _ _ _,?_⟩;have fin:∀ t' k,EP X pins σ Q (.str (Txt.slice z lo hi) t') { s with toks:=k }:=fun t' k=>⟨.str _,H,I.tok k,⟨t',rfl⟩,q⟩;cases pl with
 | none=>
  cases pu with
  | none=>exact wpAny_getItem_str_slice (l:=none) (u:=none) (st:=none) hs rfl (post_val_or_str ⟨zAA (Txt.slice_le z _ _) hz,fin⟩)
  | int j tj=>exact wpAny_getItem_str_slice (l:=none) (u:=some (j,tj)) (st:=none) hs rfl (post_val_or_str ⟨zAA (Txt.slice_le z _ _) hz,fin⟩)
 | int i ti=>
  cases pu with
  | none=>exact wpAny_getItem_str_slice (l:=some (i,ti)) (u:=none) (st:=none) hs rfl (post_val_or_str ⟨zAA (Txt.slice_le z _ _) hz,fin⟩)
  | int j tj=>exact wpAny_getItem_str_slice (l:=some (i,ti)) (u:=some (j,tj)) (st:=none) hs rfl (post_val_or_str ⟨zAA (Txt.slice_le z _ _) hz,fin⟩)
end
structure FC (K:zAa) (C:Addr):Prop where
 ga:zAe K (.ref C) "__getattribute__" = some (some (.builtin "BaseException.__getattribute__"))
 gt:zAe K (.ref C) "__getattr__" = some none
 cl:zAe K (.ref C) "__class__" = some (some (.builtin "object.__class__"))
 ob:PySem.W.mroIn K C (.type "object")=some true
 sb:PySem.W.subIn K (.ref C) (.type "BaseException")=some true
 ic:PySem.W.isClsIn K C=true
 hd:zBy K C=true
 gs:PySem.W.specialIn K (.builtin "object.__class__") "__get__" = some (some (.builtin "getset_descriptor.__get__"))
 tk:PySem.W.takesIn K (.builtin "object.__class__")=some true
theorem Y1 {K:zAa} {C:Addr} (Z:FC K C) (od:Option Obj):PySem.W.findObj K C od "__class__" = some (.bind (.builtin "getset_descriptor.__get__") (.builtin "object.__class__")):=by
 obtain⟨cd,hc⟩:=zBx.mp (show (zCo K C).isSome=true from Z.ic);unfold PySem.W.findObj;rw[hc,Option.bind_some,Z.cl,Option.bind_some];simp [Z.gs,Z.tk]
section
variable {prog:Program} {w:World} {A:Around} {E:Value->Shared->Prop} {K:zAa} {x D:Addr} {ox:Obj} {od:Option Obj}
theorem K1 {M:Model} {h:Heap} {g:Array GenState} {d:Drawn} {t:Nat} {os:OsState} {nameV:Value} {Q:Unit->Shared->Prop} (Z:FC K D) (X:K.In h) (I:PySem.W.InstAt h x ox D od) (hq:Q () ⟨h,g,d,t,os⟩) :
  wpAny M A (checkBuiltinCall "BaseException.__getattribute__" ⟨[.ref x,nameV],[]⟩) Q E ⟨h,g,d,t,os⟩:=by
 have hk:builtinKind "BaseException.__getattribute__" = some .slot:=by ac_nf
 have hsplit:splitId "BaseException.__getattribute__" = some ("BaseException", "__getattribute__"):=by ac_nf
 have ha:=F.args_bexc_ga (.ref x) nameV;have L0:=I.type (M:=M);have L1:=PySem.W.looks_subIn (M:=M) X Z.sb;simp only [checkBuiltinCall,hk,hsplit];refine zCt ?_;unfold isInstance;refine zCt (L0.at (L1.at ?_))
 repeat (first | exact hq | wp_step)
theorem L7 {s:Shared} {Q:Option Value->Shared->Prop} (Z:FC K D) (X:K.In s.heap) (I:PySem.W.InstAt s.heap x ox D od) (h:Q (some (.ref D)) { s with toks:=s.toks+1 }):wpAny (model prog w) A (getAttr? (.ref x) "__class__") Q E s:=by
 obtain⟨hh,g,d,t,os⟩:=s;have L0:=I.type (M:=model prog w);have L1:=zBT (M:=model prog w) X Z.ga;have L2:=zBT (M:=model prog w) X Z.gt;have L3:=PySem.W.looks_find (M:=model prog w) X I (Y1 Z od);unfold getAttr?;unfold getAttrBy?;unfold getAttrBy;refine zCt (wpAny_mkText (zCt (wpAny_attempt (wpAny_holding (zCt (L0.at (zCt (L1.at ?_))))))));show wpAny _ _ (getAttrByItsOwn _ _ _ _ _ _) _ _ _;unfold getAttrByItsOwn;unfold hookBefore;refine zCt (L2.at ?_);refine zCt (wpAny_attempt (wpAny_holding ?_));show wpAny _ _ (boundAndCalled _ _ _) _ _ _;unfold boundAndCalled;refine zCt (wpAny_of_eq (F.excAttr_ValueError.ga.bind (.ref x)) ?_);refine wpAny_call (codeAny_call_builtin F.excAttr_ValueError.ga.plain F.entry_bexc_ga (K1 Z X I ?_));unfold Builtin.«object.__getattribute__»;refine zCt (wpAny_of_eq (a:=(Value.ref x,[Value.str "__class__" t])) rfl ?_);refine zCt (wpAny_of_eq (a:=("__class__" : Str)) rfl ?_);refine zCt (L0.at (zCt (L3.at ?_)));show wpAny _ _ (holding [Value.builtin "object.__class__"] (call (.builtin "getset_descriptor.__get__") [.builtin "object.__class__",.ref x,.ref D]) >>= ret) _ _ _;refine zCt (wpAny_holding (wpAny_call (PySem.W.class_get X I Z.ob ?_)));refine zCu ?_;exact PySem.W.handed_on rfl (zCu h)
end
set_option tactic.hygienic true in
theorem S9 {K:zAa} {e D:Addr} (Z:FC K D):PySem.W.KitX K (.ref e) (.ref D) (fun h=>∃ oe vs,h.get? e=some oe/\oe.cls = .ref D/\oe.dict=none/\oe.data = .fields vs) where
 ty:=fun M h _ p=>by
  obtain⟨oe,vs,h1,h2,_⟩:=p;exact Ye h1 h2
 it:=fun M h X _=>by
  obtain⟨cd,hc⟩:=zBx.mp (show (zCo K D).isSome=true from Z.ic);unfold zCo at hc
  split at hc
  ·rename_i lk
   intro A' Q' E' s' k q;unfold isType;unfold loadHead;exact zCt (wpAny_loadPart (k _ _ (X _ _ lk)) (zCu q))
  ·cases hc
 ne:=fun h tp dd its n sl X htp=>by
  obtain⟨cd,hc⟩:=zBx.mp (show (zCo K D).isSome=true from Z.ic);refine zBz.mpr fun q=>?_;have e:D=tp:=Value.ref.inj (beq_iff_eq.mp q);subst e;unfold zCo at hc
  split at hc
  ·rename_i lk
   have z:=(X _ _ lk).symm.trans htp;cases z
  ·cases hc
 ca:=fun {prog w A E Q s} X p k=>by
  obtain⟨oe,vs,h1,h2,h3,h4⟩:=p;refine L7 (od:=none) (ox:=oe) Z X ⟨h1,h2,?_,?_⟩ k
  ·unfold PySem.W.notCls
   rw[h4]
  ·rw[h3]
   trivial
theorem Ed {X:Cx} {K:zAa} (hK:X.K=K:=by rfl):Fk X (.builtin "isinstance") (fun xs H Q=>∃ e C c cv b,xs=[.ref e,c]/\H e=some (Yo e (.ref C) none)/\FC K C/\(∀ u,RelV c u->u=cv)/\zAE K (.ref C) cv=some b/\Q (.bl b) H):=by
 subst hK;intro pins s σ H xs us Q I r h;obtain⟨e,C,c,cv,b,rfl,he,Z,hc,k,q⟩:=h;obtain⟨u,z,rfl,rx,rc⟩:=F0 r;cases rx;cases hc z rc;obtain⟨p,_,_⟩:=(show ObjOk X.prog X.w H s.heap e (Yo e (.ref C) none) from I.hok e _ he);exact zBd (S9 Z) I.kIn p k (fun z=>nomatch z) fun tk=>⟨.bl b,H,I.tok tk,rfl,q⟩
theorem Vg {X:Cx} {x:Str} {C:Addr} {pos:Pos} (hg:Gl X x) (hm:X.mg x=some (.ref C)) (hd:(x==("__debug__" : Str))=false:=by decide):PE X (.Name x pos) (tC (.ref C)):=Vb (v:=.ref C) hg hm rfl hd
section
variable {X:Cx} {k:Nat} {f C:Addr} {fd:zCx} {ps:List Str} {sp:Sp} {x:Str} {p pos:Pos} {e:Expr} {es:List Expr} {t:TA} {W:St->XK}
end
section
variable {X:Cx} {x:Str} {C f:Addr} {p pos:Pos} {e:Expr} {es:List Expr} {t:TA}
end
section
variable {prog:Program} {w:World} {A:Around} {Ex:Value->Shared->Prop} {hp:Heap} {gs:Array GenState} {dr:Drawn} {tk:Nat} {os:OsState}
variable {nm q:Str} {C N fI:Addr} {bs bm bmB:List Value} {hdct:Bool} {sn:List Str} {sub:List Value} {ab:Bool} {col:Option Bool} {dd:Option Addr} {k0 k1 k2 k3 k5:Option Value} {B newId initId:String} {mN:Str->Option Value} {us:List Value} {oI:Obj}
theorem Rm {Q:Fin->Shared->Prop} (FB:ExcBaseFacts B newId initId bmB) (T:OwnTail hp bmB bm) (cO:hp.get? C=some (excClassObj nm q C N bs bm hdct sn sub ab col dd k0 k1 k2 k3 k5 newId)) (nN:hp.Ns N mN)
  (iN:mN "__init__" = some (.ref fI)) (fO:hp.get? fI=some oI) (fC:oI.cls = .type "function") (sz:us.length<=sizeLine)
  (k:∀ h1 e,Heap.MadeExcOf hp h1 e (.ref C) us->wpAny (model prog w) A (call (.ref fI) (.ref e::us)) (fun r s1=>r = .none/\Q (.done (.ret (.ref e))) s1) Ex ⟨h1,gs,dr,tk,os⟩) :
  wpAny (model prog w) A (Builtin.«type.__call__» ⟨.ref C::us,[]⟩) Q Ex ⟨hp,gs,dr,tk,os⟩:=by
 repeat (first | with_reducible refine wpAny_loadPart_at cO ?_ | with_reducible refine wpAny_madeBy_exc cO ?_ | wp_step)
 refine codeAny_call_builtin_code (Code.quiet_builtin _ FB.quiet) (wpAny_check_new_subT FB T cO (codeAny_exc_new_subT FB T cO ?_ sz));show wpAny _ _ _ _ _ _;have keep:∀ b o,hp.get? b=some o->((hp.push { cls:=.type "tuple",data:=.seq us.toArray }).push { cls:=.ref C,data:=.fields #[.ref hp.objs.size,.none,.none,.none,.bool false,.none] }).get? b=some o:=
  fun b o z=>zAc _ (zAc _ z)
 have cO1:=keep _ _ cO;have new:((hp.push { cls:=.type "tuple",data:=.seq us.toArray }).push { cls:=.ref C,data:=.fields #[.ref hp.objs.size,.none,.none,.none,.bool false,.none] }).get? (hp.objs.size+1)
   = some { cls:=.ref C,data:=.fields #[.ref hp.objs.size,.none,.none,.none,.bool false,.none] }:=by heap_get
 have inC:(Value.ref C::bm).contains (.ref C)=true:=by simp
 unfold isInstance
 repeat (first | with_reducible refine wpAny_loadPart_at new ?_ | (with_reducible refine wpAny_isSubtype_exc cO1 ?_; rw[inC]) | wp_step)
 show wpAny _ _ (typeLookup (.ref C) _) _ _ _;refine wpAny_typeLookup_tail cO1 (nN.keeps keep) (T.keeps keep) FB.mroIs FB.init.lookup ?_;rw[iN];refine wpAny_holding (zCt ?_);unfold bindSpecial;refine zCt (wpAny_typeOf (T := "function") ⟨_,keep _ _ fO,fC⟩ ?_);rw[if_pos (by decide)];refine zCu (zCt (wpAny_mono (k _ (hp.objs.size+1) ⟨keep,zBR (zBh _),hp.objs.size,new,zBR (zAf _),?_⟩) (fun r s1 hr=>?_) fun _ _ z=>z))
 ·exact zAc _ (Heap.get?_push_at rfl rfl)
 ·obtain⟨rfl,hQ⟩:=hr
  wp_walk
  exact hQ
theorem GP {Q:Value->Shared->Prop} (FB:ExcBaseFacts B newId initId bmB) (T:OwnTail hp bmB bm) (cO:hp.get? C=some (excClassObj nm q C N bs bm hdct sn sub ab col dd k0 k1 k2 k3 k5 newId)) (nN:hp.Ns N mN)
  (iN:mN "__init__" = some (.ref fI)) (fO:hp.get? fI=some oI) (fC:oI.cls = .type "function") (sz:us.length<=sizeLine)
  (k:∀ h1 e,Heap.MadeExcOf hp h1 e (.ref C) us->wpAny (model prog w) (A.under (.builtin "type.__call__" ⟨.ref C::us,[]⟩)) (call (.ref fI) (.ref e::us)) (fun r s1=>r = .none/\Q (.ref e) s1) Ex ⟨h1,gs,dr,tk,os⟩) :
  wpAny (model prog w) A (call (.ref C) us) Q Ex ⟨hp,gs,dr,tk,os⟩:=by
 have l1:=tc_lookup;have l2:=tc_bind (.ref C);have isT:(⟨hp,gs,dr,tk,os⟩:Shared).TypeIs (.ref C) "type" := ⟨_,cO,rfl⟩;refine wpAny_call (codeAny_of_tree ?_);show wpAny _ _ (callAny (.ref C) _) _ _ _
 repeat (any_goals (first | assumption | with_reducible refine wpAny_loadPart_at cO ?_ | wp_step))
 refine⟨rfl,codeAny_call_builtin_at (Code.quiet_builtin _ (by ac_nf)) entry_typeCall (wpAny_check_type_call_sub cO (Rm FB T cO nN iN fO fC sz fun h1 e m=>?_))⟩;exact k h1 e m
end
section
variable {prog:Program} {w:World} {A:Around} {E:Value->Shared->Prop} {K:zAa} {x D:Addr} {ox:Obj} {od:Option Obj}
end
section
variable {X:Cx} {pins:List (Addr×Obj)} {σ:St} {H:Hp} {s:Shared} {e:Addr}
end
section
variable {X:Cx} {x f:Str} {C g:Addr} {p pos apos:Pos} {e o value:Expr} {es:List Expr} {t:TA} {ta tv:TE}
end
section
variable {X:Cx}
end
section
variable {X:Cx} {pins:List (Addr×Obj)} {σ:St} {H:Hp} {s:Shared}
end
section
variable {X:Cx}
theorem Db {K:zAa} (h:X.K=K):FJ X (B6 K):=h▸Br
theorem Km {K K':zAa} {a:Addr} {xs:List V} {tc:TT} {te:TE} {σ:St} {ix:List Nat} {QQ:Hp->Prop} {H1:Hp} {p:Addr} (Pv:Nat->List V->Hp->Prop) (h0:Pv 0 [] (upd H1 p (.lst [])))
  (hp:∀ i ys H,i<=xs.length->Pv i ys H->H p=some (.lst ys)/\ys.length<=i/\SqL K H a xs) (hn:xs.length<=sizeLine)
  (hs:∀ i x ys H,xs[i]?=some x->Pv i ys H->∃ t y z,x = .ref t/\SqT K' H t [y,z]/\tc (some y::some z::Dq ix σ) H fun b H5=>if b=true then te (some y::some z::Dq ix σ) H5 fun v H6=>H6 p=some (.lst ys) /\
   (some y::some z::Dq ix σ)=(some y::some z::Dq ix σ)/\Pv (i+1) (ys++[v]) (upd H6 p (.lst (ys++[v]))) else (some y::some z::Dq ix σ)=(some y::some z::Dq ix σ)/\Pv (i+1) ys H5)
  (hd:∀ ys H,Pv xs.length ys H->QQ H) :
  Sk (L5 K' 2 (Kv (Df 0) (Kv (Df 1) T1))) tc te 2 ix σ (DV K a) p H1 QQ:=by
 refine⟨fun i m ys σ2 H2=>m=xs.length-i/\i<=xs.length/\(∃ o o',σ2=o::o'::Dq ix σ)/\Pv i ys H2,⟨xs.length,by simp,zAk _,⟨none,none,rfl⟩,h0⟩,?_⟩;rintro i m ys σ2 H2 ⟨rfl,hi,⟨o,o',rfl⟩,pv⟩;obtain⟨hp2,hl2,hq2⟩:=hp i ys H2 hi pv;refine⟨hp2,?_⟩;by_cases hlt:i<xs.length
 ·refine .inr ⟨⟨xs,xs[i],hq2,by simp [hlt]⟩,by lia,fun x H3 yy=>?_⟩
  obtain⟨e,yy⟩:=yy;subst e;obtain⟨t,y,z,ex,ht,q⟩:=hs i x ys _ (yy xs hq2) pv;subst ex;refine⟨fun ys' σ' H'=>σ'=(some y::some z::Dq ix σ)/\Pv (i+1) ys' H',fun ys' σ' H' ⟨e,q⟩=>⟨xs.length-(i+1),by lia,rfl,hlt,⟨_,_,e⟩,q⟩,?_⟩;exact⟨t,_,rfl,ht,rfl,_,_,rfl,_,_,rfl,rfl,q⟩
 ·have e:i=xs.length:=by lia
  subst e;exact .inl ⟨⟨xs,hq2,zAf _⟩,hd ys H2 pv⟩
end
section
variable {X:Cx} {k:Nat} {m x:Str} {ps:List Str} {sp:Sp} {e:Expr} {es:List Expr} {p apos pos:Pos} {t:TA} {W:St->XK}
def T9 (Fam:Addr->Prop) (m:Str) (sp:Addr->Sp) (ta:TE) (t:TA):TE:=fun σ H Q=>ta σ H fun x H1=>∃ a C dx fs,x = .ref a/\H1 a=some (.ins C dx fs)/\Fam C/\fs.lookup m=none/\t σ H1 fun vs H2=>sp C (.ref a::vs) H2 Q E0
structure Ry (P:Program) (w:World) (K:zAa) (mg:Str->Option Value) (base:Heap) (k:Nat) (Fam:Addr->Prop) (m:Str) (ps:List Str) (sp:Addr->Sp):Prop where
 ex:∀ C,Fam C->Il P w K mg base k C m ps (sp C)
theorem Xr {Fam:Addr->Prop} {spC:Addr->Sp} {o:Expr} {ta:TE} {pl:Sem Bool} (M:Ry X.prog X.w X.K X.mg X.base k Fam m ps spC) (hr:Room k X.A) (he:PE X o ta) (ha:PA X (e::es) t)
  (hst:starEach (e::es) X.env=(false,eval e X.env)::starEach es X.env:=by rfl) (hpl:(backTo pos (starEach es X.env)).any (·.1)=false:=by rfl)
  (ht:eval (.Call (.Attribute o m apos) (e::es) [] pos) X.env=(do
   let ov <- eval o X.env
   standAt apos.atName
   let (f,first) <- holding [ov] (getMethod ov m pl)
   callWith pos f first (backTo pos (starEach (e::es) X.env)) (backToKw pos (keywordEach [] X.env))):=by rfl) :
  PE X (.Call (.Attribute o m apos) (e::es) [] pos) (T9 Fam m spC ta t):=by
 intro pins s σ H Q I h;refine zBQ (pl:=pl) (Ca (he pins s σ H _ I h) fun u s1 ⟨x,H1,I1,rx,a,C,dx,fs,ex,ea,hF,l,q⟩=>?_) ht;subst ex;obtain rfl:u=Value.ref a:=rx;obtain⟨f,fd,F,b,hm⟩:=(M.ex C hF).ex;refine Hg I1 ea (M.ex C hF).cl hm l ?_;refine zBL (first:=[.ref a]) (h₀ := X.base) I.ok.mod.kin hm.kp (Ca (ha pos pins s1 σ H1 _ I1 q) fun us s2 ⟨vs,H2,I2,r,q2⟩=>⟨I2.kIn,?_⟩) hst hpl;exact Tn (us:=.ref a::us) (vs:=.ref a::vs) F hr b .nil Sn I2 (.cons rfl r) (by rw[zAJ]; exact q2)
theorem Sl {Fam:Addr->Prop} {spC:Addr->Sp} {o:Expr} {ta:TE} {pl:Sem Bool} (M:Ry X.prog X.w X.K X.mg X.base k Fam m ps spC) (hr:Room k X.A) (he:PE X o ta)
  (ht:eval (.Call (.Attribute o m apos) [] [] pos) X.env=(do
   let ov <- eval o X.env
   standAt apos.atName
   let (f,first) <- holding [ov] (getMethod ov m pl)
   callWith pos f first (backTo pos (starEach [] X.env)) (backToKw pos (keywordEach [] X.env))):=by rfl) :
  PE X (.Call (.Attribute o m apos) [] [] pos) (T9 Fam m spC ta Zh):=by
 intro pins s σ H Q I h;refine zBQ (pl:=pl) (Ca (he pins s σ H _ I h) fun u s1 ⟨x,H1,I1,rx,a,C,dx,fs,ex,ea,hF,l,q⟩=>?_) ht;subst ex;obtain rfl:u=Value.ref a:=rx;obtain⟨f,fd,F,b,hm⟩:=(M.ex C hF).ex;refine Hg I1 ea (M.ex C hF).cl hm l ?_;exact PySem.W.callWith_K0 (first:=[.ref a]) I1.kIn hm.kp (Tn (us:=[.ref a]) (vs:=[.ref a]) F hr b .nil Sn I1 (.cons rfl .nil) q)
end
section
variable {X:Cx}
end
structure IH (K:zAa) (mg:Str->Option Value) (x:Str) (C:Addr):Prop where
 makes:zBY K C=true
 init:zAe K (.ref C) "__init__" = some (some (.builtin "object.__init__"))
 kp:zAT K (.ref C)=true
 at_:mg x=some (.ref C)
def IC (C:Addr):TE:=fun _ H Q=>∀ y dx,H y=none->H dx=none->dx≠y->Q (.ref y) (upd (upd H dx (.own y)) y (.ins C dx []))
theorem AV {X:Cx} {x:Str} {C:Addr} {p pos:Pos} (M:IH X.K X.mg x C) (hg:Gl X x) (hdb:(x==("__debug__" : Str))=false:=by decide):PE X (.Call (.Name x p) [] [] pos) (IC C):=by
 intro pins s σ H Q I h;refine wpAny_Call_Name_kw (Gh I hg M.at_ ?_ hdb);refine PySem.W.callWith_K0 I.kIn M.kp (wpAny_call (O2 I.kIn M.makes M.init (fun self=>PySem.W.Looks.of_pure (PySem.W.oi_bind self)) ?_));have hq:=h (s.heap.objs.size+1) s.heap.objs.size (I.hok.fresh (zBh _)) (I.hok.fresh (zAf _)) (zAm (zBs _));have I2:=Inv.made (C:=C) I;have Y:=PySem.W.makes_of (M:=model X.prog X.w) I.kIn M.makes;have ob:((s.heap.push zAP).push (zAZ C s.heap.objs.size)).get? (s.heap.objs.size+1)=some (zAZ C s.heap.objs.size):=by
  have e:(s.heap.push zAP).objs.size=s.heap.objs.size+1:=by rw[zBm]
  rw[<- e];exact zAt _ rfl
 have t1:PySem.W.Looks (model X.prog X.w) ((s.heap.push zAP).push (zAZ C s.heap.objs.size)) (typeOf (.ref (s.heap.objs.size+1))) (.ref C):=(PySem.W.Looks.ld ob).andThen .now;have t2:PySem.W.Looks (model X.prog X.w) ((s.heap.push zAP).push (zAZ C s.heap.objs.size)) (isInstance (.ref (s.heap.objs.size+1)) (.type "object")) true:=t1.andThen (Y.top.keeps fun b o e=>zAc _ (zAc _ e));obtain⟨hh,g,d,t,os⟩:=s;refine codeAny_call_builtin PySem.W.oi_plain PySem.W.entry_oi (@PySem.W.check_slot (model X.prog X.w) _ _ _ "object.__init__" "object" "__init__" (.ref (hh.objs.size+1)) [] [] _ PySem.W.oi_kind PySem.W.oi_split t2 (PySem.W.oi_args (.ref (hh.objs.size+1))) ?_);rw[PySem.W.oi_run];exact zCu (And.intro rfl ⟨V.ref (hh.objs.size+1),_,I2,rfl,hq⟩)
end L2
namespace CRS
open PySem PySem.W PyProof.Rows
def run {α:Type} (lt:Nat->Nat->Bool) (V:Nat->Prop):KasT α->(α->Prop)->Prop
 | .ret a,Q=>Q a
 | .ask i j k,Q=>V i/\V j/\run lt V (k (lt i j)) Q
section
variable {lt:Nat->Nat->Bool} {V:Nat->Prop}
theorem Gr {α β:Type} {f:α->KasT β} {Q:β->Prop}:∀ t:KasT α,run lt V t (fun a=>run lt V (f a) Q)->run lt V (t.bind f) Q
 | .ret a,h=>h
 | .ask i j k,⟨h1,h2,h3⟩=>⟨h1,h2,Gr (k (lt i j)) h3⟩
theorem run_wp {α:Type} {cmp:Nat->Nat->(Bool->Shared->Prop)->Shared->Prop} {s:Shared} (hc:∀ i j (C:Bool->Shared->Prop),V i->V j->C (lt i j) s->cmp i j C s) {Q:α->Prop} {G:α->Shared->Prop} (hq:∀ a,Q a->G a s) :
  ∀ t:KasT α,run lt V t Q->t.kasWp cmp G s
 | .ret a,h=>hq a h
 | .ask i j k,⟨h1,h2,h3⟩=>hc i j _ h1 h2 (run_wp hc hq (k (lt i j)) h3)
theorem Eb {α:Type} {c:Prop} {inst:Decidable c} {t u:KasT α} {Q:α->Prop} (h1:c->run lt V t Q) (h2:¬ c->run lt V u Q):run lt V (@ite _ c inst t u) Q:=by
 by_cases h:c
 ·rw[if_pos h]; exact h1 h
 ·rw[if_neg h]; exact h2 h
end
section
variable {O:KeyOrd} {key:Nat->O.α} {N:Nat}
abbrev ltK (key:Nat->O.α):Nat->Nat->Bool:=fun i j=>O.blt (key i) (key j)
def kk (key:Nat->O.α) (p:Array Nat) (i:Nat):O.α:=key (p.getD i 0)
def Pm (N:Nat) (p:Array Nat):Prop:=p.Perm (zAN N).toArray
def Up (key:Nat->O.α) (p:Array Nat) (m:Nat):Prop:=∀ i j,i<=j->j<m->O.kle (kk key p i) (kk key p j)
def Dn (key:Nat->O.α) (p:Array Nat) (m:Nat):Prop:=∀ i j,i<=j->j<m->O.kle (kk key p j) (kk key p i)
theorem Pm.size {p:Array Nat} (h:Pm N p):p.size=N:=by rw[h.size_eq]; simp
set_option tactic.hygienic true in
theorem Pm.lt {p:Array Nat} (h:Pm N p) (hN:0<N) (i:Nat):p.getD i 0<N:=by
 unfold zCh
 split
 ·rename_i hi
  have m:p[i]∈p.toList:=by simp
  have m2:=(Array.perm_iff_toList_perm.mp h).mem_iff.mp m
  simpa using m2
 ·exact hN
theorem Pm.rev {p:Array Nat} (h:Pm N p) (i j:Nat):Pm N (kas_rev p i j):=(mirror_perm p i j _).trans h
theorem Pm.bub {p:Array Nat} (h:Pm N p) (i j:Nat):Pm N (bubble p i j):=(bubble_perm p i j).trans h
theorem Lg {p q:Array Nat} {i j:Nat} (h:p[i]?=q[j]?):p.getD i 0=q.getD j 0:=by
 have e:∀ (r:Array Nat) (k:Nat),r.getD k 0=(r[k]?).getD 0:=fun r k=>by
  by_cases hk:k<r.size <;> simp [zCh,hk]
 rw[e,e,h]
theorem Yp {p:Array Nat} {i j:Nat} (hj:j<=p.size) (k:Nat):kk key (kas_rev p i j) k=if i<=k/\k<j then kk key p (i+j-1-k) else kk key p k:=by
 have e:=getElem?_mirror_all (xs:=p) (i:=i) hj k;unfold kk kas_rev;by_cases c:i<=k/\k<j
 ·rw[if_pos c] at e ⊢; rw[Lg e]
 ·rw[if_neg c] at e ⊢; rw[Lg e]
theorem EF {p:Array Nat} {b d:Nat} (hs:b<p.size) (hd:d<=b) (k:Nat):kk key (bubble p b d) k=if k=b-d then kk key p b else if b-d<k/\k<=b then kk key p (k-1) else kk key p k:=by
 have e:=getElem?_bubble hs d hd k;unfold kk;by_cases c:k=b-d
 ·rw[if_pos c] at e ⊢; rw[Lg e]
 ·rw[if_neg c] at e ⊢
  by_cases c2:b-d<k/\k<=b
  ·rw[if_pos c2] at e ⊢; rw[Lg e]
  ·rw[if_neg c2] at e ⊢; rw[Lg e]
theorem Tq {p:Array Nat} {i j:Nat} (hj:j<=p.size) (h:∀ k,i<=k->k<j->kk key p k=kk key p (j-1)) (k:Nat):kk key (kas_rev p i j) k=kk key p k:=by
 rw[Yp hj];by_cases c:i<=k/\k<j
 ·rw[if_pos c,h _ (by lia) (by lia),h k c.1 c.2]
 ·rw[if_neg c]
theorem Up.more {p:Array Nat} {n:Nat} (h:Up key p n) (e:O.kle (kk key p (n-1)) (kk key p n)):Up key p (n+1):=fun i j hij hj=>by
 rcases Nat.lt_or_ge j n with z | z
 ·exact h i j hij z
 ·obtain rfl:j=n:=by lia
  rcases Nat.eq_or_lt_of_le hij with y | y
  ·rw[y]; exact KeyOrd.kle_refl _
  ·exact KeyOrd.kle_trans (h i (j-1) (by lia) (by lia)) e
theorem Dn.more {p:Array Nat} {n:Nat} (h:Dn key p n) (e:O.kle (kk key p n) (kk key p (n-1))):Dn key p (n+1):=fun i j hij hj=>by
 rcases Nat.lt_or_ge j n with z | z
 ·exact h i j hij z
 ·obtain rfl:j=n:=by lia
  rcases Nat.eq_or_lt_of_le hij with y | y
  ·rw[y]; exact KeyOrd.kle_refl _
  ·exact KeyOrd.kle_trans e (h i (j-1) (by lia) (by lia))
theorem Dn.of {p q:Array Nat} {n:Nat} (h:Dn key p n) (e:∀ k,kk key q k=kk key p k):Dn key q n:=fun i j a b=>by rw[e,e]; exact h i j a b
variable {β:Type}
theorem Ua {p:Array Nat} (hp:Pm N p) (hN:0<N) {Q:Nat->Prop}:∀ (f n:Nat),Up key p n->(∀ m,n<=m->m<=n+f->Up key p m->(m=n+f\/O.klt (kk key p m) (kk key p (m-1)))->Q m)->run (ltK key) (fun i=>i<N) (kas_asc p f n) Q
 | 0,n,h,q=>q n (zAf _) (zAf _) h (.inl rfl)
 | f+1,n,h,q=>by
  refine⟨hp.lt hN _,hp.lt hN _,?_⟩;refine Eb (fun c=>?_) (fun c=>?_)
  ·exact q n (zAf _) (by lia) h (.inr c)
  ·exact Ua hp hN f (n+1) (h.more (KeyOrd.kle_of_not_klt c)) fun m a b u v=>q m (by lia) (by lia) u (v.imp (fun z=>by lia) id)
def Tl (key:Nat->O.α) (p:Array Nat) (n q:Nat):Prop:=q+1<=n/\∀ i,n-(q+1)<=i->i<n->kk key p i=kk key p (n-1)
theorem Tl.one {p:Array Nat} {n:Nat}:Tl key p (n+1) 0:=⟨by lia,fun i a b=>by rw[show i=n+1-1 by lia]⟩
theorem Li (hN:0<N) {Q:Array Nat×Nat×Nat->Prop}:∀ (f:Nat) (p:Array Nat) (n q:Nat),Pm N p->n+f<=N->Dn key p n->Tl key p n q->(∀ p' m q',Pm N p'->n<=m->m<=n+f->Dn key p' m->Tl key p' m q'->Q (p',m,q'))->run (ltK key) (fun i=>i<N) (kas_desc f p n q) Q
 | 0,p,n,q,hp,_,d,t,k=>k p n q hp (zAf _) (zAf _) d t
 | f+1,p,n,q,hp,hf,d,t,k=>by
  have sz:=hp.size;refine⟨hp.lt hN _,hp.lt hN _,?_⟩;refine Eb (fun c=>?_) (fun c=>?_)
  ·have d1:=d.more (KeyOrd.kle_of_klt c)
   refine Eb (fun _=>?_) (fun _=>?_)
   ·have like:∀ k,kk key (kas_rev p (n-(q+1)) n) k=kk key p k:=Tq (by lia) t.2
    exact Li hN f _ (n+1) 0 (hp.rev _ _) (by lia) (d1.of like) .one fun p' m q' a b e=>k p' m q' a (by lia) (by lia)
   ·exact Li hN f _ (n+1) 0 hp (by lia) d1 .one fun p' m q' a b e=>k p' m q' a (by lia) (by lia)
  ·refine⟨hp.lt hN _,hp.lt hN _,?_⟩
   refine Eb (fun c2=>?_) (fun c2=>?_)
   ·exact k p n q hp (zAf _) (by lia) d t
   ·have e:kk key p n=kk key p (n-1):=KeyOrd.kle_antisymm (KeyOrd.kle_of_not_klt c2) (KeyOrd.kle_of_not_klt c)
    refine Li hN f p (n+1) (q+1) hp (by lia) (d.more (by rw[e]; exact KeyOrd.kle_refl _)) ⟨by have:=t.1; lia,fun i a b=>?_⟩ fun p' m q' a b e=>k p' m q' a (by lia) (by lia);rw[show n+1-1=n by lia];rcases Nat.lt_or_ge i n with z | z
    ·rw[e]; exact t.2 i (by lia) z
    ·rw[show i=n by lia]
theorem Wk {p:Array Nat} {n m:Nat} (hN:0<N) (hp:Pm N p) (hm:m<=N) (hn:n<=m) (d:Dn key p n) {Q:Nat×Array Nat->Prop} (q:∀ r p',Pm N p'->n<=r->r<=m->Up key p' r->Q (r,p')):run (ltK key) (fun i=>i<N) (kas_tail3 n m p) Q:=by
 have sz:=hp.size;refine Gr _ (Ua (hp.rev 0 n) hN (m-n) n (fun i j a b=>?_) fun r a b u _=>q r _ (hp.rev 0 n) a (by lia) u);rw[Yp (by lia),Yp (by lia),if_pos ⟨by lia,by lia⟩,if_pos ⟨by lia,by lia⟩];exact d _ _ (by lia) (by lia)
theorem Xg {p:Array Nat} {n m:Nat} (hN:0<N) (hp:Pm N p) (hm:m<=N) (hn:n+1<=m) (d:Dn key p (n+1)) {Q:Nat×Array Nat->Prop} (q:∀ r p',Pm N p'->n<=r->r<=m->Up key p' r->Q (r,p')):run (ltK key) (fun i=>i<N) (kas_descPart n m p) Q:=by
 refine Gr _ (Li hN (m-(n+1)) p (n+1) 0 hp (by lia) d .one fun p' r c hp' a b d' t=>?_);have sz:=hp'.size;refine Eb (fun _=>?_) (fun _=>?_)
 ·have like:∀ k,kk key (kas_rev p' (r-(c+1)) r) k=kk key p' k:=Tq (by lia) t.2
  exact Wk hN (hp'.rev _ _) hm (by lia) (d'.of like) fun x y z u v=>q x y z (by lia) v
 ·exact Wk hN hp' hm (by lia) d' fun x y z u v=>q x y z (by lia) v
theorem K2 {p:Array Nat} {m:Nat} (hN:0<N) (hp:Pm N p) (hm:m<=N) (h1:1<=m) {Q:Nat×Array Nat->Prop} (q:∀ r p',Pm N p'->1<=r->r<=m->Up key p' r->Q (r,p')):run (ltK key) (fun i=>i<N) (kas_count m p) Q:=by
 have sz:=hp.size;refine Gr _ (Ua hp hN (m-1) 1 (fun i j a b=>?_) fun n a b u v=>?_)
 ·rw[show i=j by lia]; exact KeyOrd.kle_refl _
 refine Eb (fun c=>?_) (fun c=>?_)
 ·exact q n p hp a (by lia) u
 have c':n≠m:=fun e=>c (by rw[e]; exact beq_self_eq_true _);have fall:O.klt (kk key p n) (kk key p (n-1)):=v.resolve_left (by lia);refine Eb (fun g=>?_) (fun g=>?_)
 ·refine⟨hp.lt hN _,hp.lt hN _,?_⟩
  refine Eb (fun r=>?_) (fun r=>?_)
  ·exact q n p hp a (by lia) u
  have alike:∀ k,0<=k->k<n->kk key p k=kk key p (n-1):=fun k _ hk=>
   KeyOrd.kle_antisymm (u k (n-1) (by lia) (by lia)) (KeyOrd.kle_trans (KeyOrd.kle_of_not_klt r) (u 0 k (by lia) hk))
  have like:∀ k,kk key (kas_rev p 0 n) k=kk key p k:=Tq (by lia) alike;refine Xg hN (hp.rev 0 n) hm (by lia) (Dn.of (p:=p) (Dn.more (fun i j x y=>?_) (KeyOrd.kle_of_klt fall)) like) fun x y z w=>q x y z (by lia);rw[alike i (by lia) (by lia),alike j (by lia) y];exact KeyOrd.kle_refl _
 ·refine Xg hN hp hm (by lia) (Dn.more (fun i j x y=>?_) (KeyOrd.kle_of_klt fall)) fun x y z w=>q x y z (by lia)
  rw[show i=j by lia];exact KeyOrd.kle_refl _
theorem Mm {p:Array Nat} {k:Nat} (hN:0<N) (hp:Pm N p) (u:Up key p k) {Q:Nat->Prop} (q:∀ l,l<=k->(∀ i,i<l->O.kle (kk key p i) (kk key p k))->(∀ i,l<=i->i<k->O.klt (kk key p k) (kk key p i))->Q l) :
  ∀ (f l r:Nat),l<=r->r<=k->r-l<=f->(∀ i,i<l->O.kle (kk key p i) (kk key p k))->(∀ i,r<=i->i<k->O.klt (kk key p k) (kk key p i))->run (ltK key) (fun i=>i<N) (kas_place p k f l r) Q
 | 0,l,r,a,b,c,x,y=>by
  obtain rfl:l=r:=by lia
  exact q l b x y
 | f+1,l,r,a,b,c,x,y=>by
  refine Eb (fun g=>?_) (fun g=>?_)
  ·obtain rfl:l=r:=by lia
   exact q l b x y
  refine⟨hp.lt hN _,hp.lt hN _,?_⟩;refine Eb (fun z=>?_) (fun z=>?_)
  ·exact Mm hN hp u q f l ((l+r)/2) (by lia) (by lia) (by lia) x fun i v w=>KeyOrd.klt_of_klt_of_kle z (u _ i v w)
  ·exact Mm hN hp u q f ((l+r)/2+1) r (by lia) b (by lia) (fun i v=>KeyOrd.kle_trans (u i ((l+r)/2) (by lia) (by lia)) (KeyOrd.kle_of_not_klt z)) y
theorem D5 (hN:0<N) {Q:Array Nat->Prop}:∀ (f:Nat) (p:Array Nat) (k:Nat),Pm N p->k+f<=N->Up key p k->(∀ p',Pm N p'->Up key p' (k+f)->Q p')->run (ltK key) (fun i=>i<N) (kas_bin f p k) Q
 | 0,p,k,hp,_,u,q=>q p hp u
 | f+1,p,k,hp,hk,u,q=>by
  have sz:=hp.size;refine Gr _ (Mm hN hp u (fun l a lo hi=>?_) k 0 k (by lia) (by lia) (by lia) (fun i z=>by lia) fun i z w=>by lia);refine D5 hN f _ (k+1) (hp.bub _ _) (by lia) (fun i j x y=>?_) fun p' a b=>q p' a (by rw[show k+(f+1)=k+1+f by lia]; exact b);have bb:∀ i,kk key (bubble p k (k-l)) i=if i=l then kk key p k else if l<i/\i<=k then kk key p (i-1) else kk key p i:=fun i=>by
   rw[EF (by lia) (by lia),show k-(k-l)=l by lia]
  rw[bb,bb];rcases zBN i l with c | c | c
  ·rw[if_neg (by lia),if_neg (by lia)]
   rcases zBN j l with e | e | e
   ·rw[if_neg (by lia),if_neg (by lia)]; exact u i j x (by lia)
   ·rw[if_pos e]; exact lo i c
   ·rw[if_neg (by lia),if_pos (by lia)]; exact u i (j-1) (by lia) (by lia)
  ·rw[if_pos c]
   rcases Nat.eq_or_lt_of_le x with e | e
   ·rw[if_pos (by lia)]; exact KeyOrd.kle_refl _
   ·rw[if_neg (by lia),if_pos (by lia)]; exact KeyOrd.kle_of_klt (hi (j-1) (by lia) (by lia))
  ·rw[if_neg (by lia),if_pos (by lia),if_neg (by lia),if_pos (by lia)]
   exact u (i-1) (j-1) (by lia) (by lia)
theorem run_sort (hN:0<N) {Q:Array Nat->Prop} (q:∀ p,Pm N p->Up key p N->Q p):run (ltK key) (fun i=>i<N) (kas_sort N) Q:=by
 refine Gr _ (K2 hN (show Pm N _ from Array.Perm.refl _) (zAf _) hN fun r p hp a b u=>?_);refine Eb (fun c=>?_) (fun c=>?_)
 ·have c':r<N:=c
  show run _ _ (kas_bin (N-max r 1) p (max r 1)) Q;have e:max r 1=r:=by lia
  rw[e];exact D5 hN _ p r hp (by lia) u fun p' x y=>q p' x (by rw[show r+(N-r)=N by lia] at y; exact y)
 ·have c':¬ r<N:=c
  obtain rfl:r=N:=by lia
  exact q p hp u
end
end CRS
namespace L2
open PySem PySem.Spec PyProof.Rows PySem.W
theorem Kj:∀ a:List Int,HT.lexLt a a=false
 | []=>rfl
 | x::xs=>by unfold HT.lexLt; rw[if_pos rfl]; exact Kj xs
theorem Tc:∀ a b c:List Int,HT.lexLt a b=true->HT.lexLt b c=true->HT.lexLt a c=true
 | [],[],_,h,_=>nomatch h
 | [],_::_,[],_,h=>nomatch h
 | [],_::_,_::_,_,_=>rfl
 | _::_,[],_,h,_=>nomatch h
 | _::_,_::_,[],_,h=>nomatch h
 | x::xs,y::ys,z::zs,h1,h2=>by
  unfold HT.lexLt at h1 h2 ⊢;by_cases e1:x=y
  ·by_cases e2:y=z
   ·rw[if_pos e1] at h1; rw[if_pos e2] at h2; rw[if_pos (e1.trans e2)]; exact Tc xs ys zs h1 h2
   ·rw[if_neg e2] at h2; rw[if_neg (by rw[e1]; exact e2),e1]; exact h2
  ·rw[if_neg e1] at h1
   have l1:=of_decide_eq_true h1;by_cases e2:y=z
   ·rw[if_neg (by rw[<- e2]; exact e1),<- e2]; exact h1
   ·rw[if_neg e2] at h2
    have l2:=of_decide_eq_true h2;rw[if_neg (by omega)];exact decide_eq_true (by omega)
theorem D8:∀ a b c:List Int,HT.lexLt a c=true->HT.lexLt a b=true\/HT.lexLt b c=true
 | [],[],_,h=>.inr h
 | [],_::_,_,_=>.inl rfl
 | _::_,_,[],h=>nomatch h
 | _::_,[],_::_,_=>.inr rfl
 | x::xs,y::ys,z::zs,h=>by
  unfold HT.lexLt at h ⊢;by_cases e1:x=y
  ·by_cases e2:y=z
   ·rw[if_pos (e1.trans e2)] at h; rw[if_pos e1,if_pos e2]; exact D8 xs ys zs h
   ·rw[if_neg (by rw[e1]; exact e2)] at h; rw[if_neg e2]; exact .inr (by rw[<- e1]; exact h)
  ·rw[if_neg e1]
   by_cases e2:y=z
   ·rw[if_neg (by rw[<- e2]; exact e1)] at h; exact .inl (by rw[e2]; exact h)
   ·rw[if_neg e2]
    by_cases l:x<y
    ·exact .inl (decide_eq_true l)
    ·right
     refine decide_eq_true ?_;by_cases e3:x=z
     ·omega
     ·rw[if_neg e3] at h
      have:=of_decide_eq_true h;omega
theorem Tg:∀ a b:List Int,HT.lexLt a b=false->HT.lexLt b a=false->a=b
 | [],[],_,_=>rfl
 | [],_::_,h,_=>nomatch h
 | _::_,[],_,h=>nomatch h
 | x::xs,y::ys,h1,h2=>by
  unfold HT.lexLt at h1 h2;by_cases e1:x=y
  ·rw[if_pos e1] at h1; rw[if_pos e1.symm] at h2; rw[e1,Tg xs ys h1 h2]
  ·rw[if_neg e1] at h1; rw[if_neg (Ne.symm e1)] at h2
   have l1:=of_decide_eq_false h1;have l2:=of_decide_eq_false h2;omega
def LexO:KeyOrd:=⟨List Int,HT.lexLt,Kj,Tc,D8,Tg⟩
section
variable {prog:Program} {w:World} {A:Around} {E:Value->Shared->Prop} {s:Shared}
def S5 (prog:Program) (w:World) (A:Around) (vs:List Value) (O:KeyOrd) (key:Nat->O.α) (s:Shared):Prop:=
 ∃ κ:SortKind,(∀ (Q:SortKind->Shared->Prop) (E:Value->Shared->Prop),Q κ s->wpAny (model prog w) A (keyKind' vs.toArray) Q E s) /\
  ∀ i j,i<vs.length->j<vs.length->∀ C:Bool->Shared->Prop,C (O.blt (key i) (key j)) s->wpAny (model prog w) A (keyLt' κ (vs.getD i Value.none) (vs.getD j Value.none)) C (fun _ _=>False) s
def Fz (vs:List Value) (p:Array Nat):List Value:=p.toList.map fun i=>vs.getD i Value.none
theorem Pb {n:Nat} {vs:List Value} {p:Array Nat} (h:CRS.Pm n p):(Fz vs p).length=n:=by
 unfold Fz;rw[zAb,zAw,h.size]
theorem BB:∀ {vs:List Value},vs.length<2->((vs.toArray.zip vs.toArray).map (·.2))=(Fz vs (zAN vs.length).toArray).toArray
 | [],_=>by
  apply zCr.mp;simp [Fz]
 | [v],_=>by
  apply zCr.mp;simp [Fz]
 | _::_::_,h=>absurd h (by simp)
theorem BD {O:KeyOrd} {key:Nat->O.α} {a:Addr} {vs:List Value} {n:Nat} {P:PySem.Fin->Shared->Prop} (ho:s.heap.get? a=some (seqObj "list" vs.toArray n)) (h64:vs.length<64)
  (ask:∀ h':Heap,(∀ b o,b≠a->s.heap.get? b=some o->h'.get? b=some o)->2<=vs.length->S5 prog w A vs O key { s with heap:=h' })
  (h:∀ p,CRS.Pm vs.length p->CRS.Up key p vs.length->P (.done (.ret .none)) { s with heap:=sortedHeap s.heap a vs (Fz vs p).toArray }) :
  wpAny (model prog w) A (Builtin.«list.sort» ⟨[.ref a],[]⟩) P E s:=by
 have lt:a<s.heap.objs.size:=zAh ho;have line:∀ k:Nat,k<64->k<=sizeLine:=fun k hk=>by rw[zCv]; lia
 rw[list_sort_plain];refine zCt (listItems_at ho rfl (zCt (listUpdate_at ho rfl ?_ (by rw[zAd]; exact line _ h64) (zAk _))));obtain⟨e1,ho1⟩:∃ e1,(s.heap.update a (Obj.mapSeq fun _=>(#[]:Array Value))).get? a=some (seqObj "list" #[] e1):=⟨_,get?_update_seq ho fun _ => #[]⟩;refine zCt (seqEpoch_at ho1 rfl (zCt (wpAny_newTuple (zCt (wpAny_newList (wpAny_holding ?_) (zAk _))) (by rw[zAw,zAd]; exact line _ h64))));have sb:=zBc.update s.heap a (Obj.mapSeq fun _=>(#[]:Array Value));have old:∀ b o,b≠a->s.heap.get? b=some o->(((s.heap.update a (Obj.mapSeq fun _=>(#[]:Array Value))).push (seqObj "tuple" vs.toArray 0)).push (seqObj "list" #[] 0)).get? b=some o:=fun b o nb e=>
  zAc _ (zAc _ ((sb.2 b nb).trans e))
 have ho3:(((s.heap.update a (Obj.mapSeq fun _=>(#[]:Array Value))).push (seqObj "tuple" vs.toArray 0)).push (seqObj "list" #[] 0)).get? a=some (seqObj "list" #[] e1):=zAc _ (zAc _ ho1);show wpAny (model prog w) A _ P E { s with heap:=((s.heap.update a (Obj.mapSeq fun _=>(#[]:Array Value))).push (seqObj "tuple" vs.toArray 0)).push (seqObj "list" #[] 0) }
 dsimp only
 have sz:vs.toArray.size=vs.length:=zAd ..;by_cases few:vs.toArray.size<2
 ·rw[if_pos few,if_pos few]
  refine zCt (zCu ?_);rw[StateT.run_pure];refine zCt (zCu ?_);have eo:(arrOf (SortSt.mk' general' (vs.toArray.zip vs.toArray) #[] 7 none)).map (·.2)=(Fz vs (zAN vs.length).toArray).toArray:=BB (by lia);show wpAny (model prog w) A (do
   let x <- seqEpoch a
   let _ <- Builtin.List.listUpdate (.ref a) fun _=>(arrOf (SortSt.mk' general' (vs.toArray.zip vs.toArray) #[] 7 none)).map (·.2)
   _) P E _
  rw[eo];refine zCt (seqEpoch_at ho3 rfl (zCt (listUpdate_at ho3 rfl ?_ (zAk _) (by rw[zAd,Pb (n:=vs.length) (Array.Perm.refl _)]; have:=line _ h64; lia))));simp only [bne_self_eq_false,zAW,if_false];refine zCu (h _ (Array.Perm.refl _) fun i j hij hj=>?_);rw[show i=j by lia];exact KeyOrd.kle_refl _
 ·rw[if_neg few,if_neg few]
  have two:2<=vs.length:=by lia
  obtain⟨κ,kind,less⟩:=ask _ old two;refine zCt (kind _ _ ?_);have tree:(kas_sort vs.length).kasWp (kas_ask prog w A κ vs) (fun p s'=>s'={ s with heap:=((s.heap.update a (Obj.mapSeq fun _=>(#[]:Array Value))).push (seqObj "tuple" vs.toArray 0)).push (seqObj "list" #[] 0) }/\CRS.Pm vs.length p/\CRS.Up key p vs.length)
    { s with heap:=((s.heap.update a (Obj.mapSeq fun _=>(#[]:Array Value))).push (seqObj "tuple" vs.toArray 0)).push (seqObj "list" #[] 0) }:=
   CRS.run_wp (lt:=CRS.ltK key) (V:=fun i=>i<vs.length) (fun i j C hi hj hC=>less i j hi hj C hC) (fun p hp=>⟨rfl,hp⟩) _ (CRS.run_sort (by lia) fun p h1 h2=>⟨h1,h2⟩)
  refine zCt (wpAny_mono (kat_run (ks:=vs) (vs:=vs) (Q:=fun st' s'=>s'={ s with heap:=((s.heap.update a (Obj.mapSeq fun _=>(#[]:Array Value))).push (seqObj "tuple" vs.toArray 0)).push (seqObj "list" #[] 0) }/\failedOf st'=none/\∃ p,CRS.Pm vs.length p/\CRS.Up key p vs.length/\(arrOf st').map (·.2)=(Fz vs p).toArray)
   rfl two h64 (fun p st' s' _ har hf ⟨es,g1,g2⟩=>⟨es,hf,p,g1,g2,kat_snds rfl har⟩) tree) ?_ fun _ _ e=>e)
  rintro ⟨⟨⟩,st'⟩ s' ⟨rfl,hf,p,hp,hu,eo⟩;show wpAny (model prog w) A (do
   let x <- seqEpoch a
   let _ <- Builtin.List.listUpdate (.ref a) fun _=>(arrOf st').map (·.2)
   _) P E _
  rw[eo];refine zCt (seqEpoch_at ho3 rfl (zCt (listUpdate_at ho3 rfl ?_ (zAk _) (by rw[zAd,Pb hp]; have:=line _ h64; lia))));rw[hf];simp only [bne_self_eq_false,zAW,if_false];exact zCu (h p hp hu)
theorem Tf {O:KeyOrd} {key:Nat->O.α} {l:Addr} {vs:List Value} {Q:Value->Shared->Prop} (hl:s.heap.IsList l vs.toArray) (h64:vs.length<64)
  (ask:∀ (A:Around) (h':Heap),(∀ b o,s.heap.get? b=some o->h'.get? b=some o)->2<=vs.length->S5 prog w A vs O key { s with heap:=h' })
  (h:∀ p,CRS.Pm vs.length p->CRS.Up key p vs.length->Q (.ref (s.heap.objs.size+1)) { s with heap:=sortedAll s.heap vs (Fz vs p).toArray }) :
  wpAny (model prog w) A (call (.builtin "sorted") [.ref l]) Q E s:=by
 have line:vs.length<=sizeLine:=by rw[zCv]; omega
 refine Calls.call_function_entry kind_sorted plain_sorted entry_sorted (args_sorted1 _) ?_;unfold Builtin.«sorted»;refine zCt (m:=checkCount "sorted" 1 1 _) (zCu (zCt (collect_list hl (zCt (wpAny_newList ?_ line)))));have sz:((s.heap.push (seqObj "list" #[] 0)).update s.heap.objs.size (Obj.mapSeq (· ++ vs.toArray))).objs.size=s.heap.objs.size+1:=by rw[zBU,size_push']
 have at1:(((s.heap.push (seqObj "list" #[] 0)).update s.heap.objs.size (Obj.mapSeq (· ++ vs.toArray))).push (seqObj "list" vs.toArray 0)).get? (s.heap.objs.size+1)=some (seqObj "list" vs.toArray 0):=by
  rw[<- sz];exact zAt _ rfl
 have old:∀ b o,s.heap.get? b=some o->(((s.heap.push (seqObj "list" #[] 0)).update s.heap.objs.size (Obj.mapSeq (· ++ vs.toArray))).push (seqObj "list" vs.toArray 0)).get? b=some o:=fun b o e=>
  zAc _ (((zBc.update (s.heap.push (seqObj "list" #[] 0)) s.heap.objs.size (Obj.mapSeq (· ++ vs.toArray))).2 b (zAm (zAh e))).trans (zAc _ e))
 show wpAny (model prog w) _ _ _ _ { s with heap:=((s.heap.push (seqObj "list" #[] 0)).update s.heap.objs.size (Obj.mapSeq (· ++ vs.toArray))).push (seqObj "list" vs.toArray 0) };rw[sz];refine zCt (wpAny_holding (wpAny_call_entry slot_list_sort ⟨_,at1,rfl⟩ entry_list_sort (BD (O:=O) (key:=key) at1 h64 (fun h' k two=>?_) fun p hp hu=>⟨_,rfl,?_⟩) (args_list_sort _)))
 ·exact ask _ h' (fun b o e=>k b o (zAm (zAU (zAh e))) (old b o e)) two
 ·exact zCu ⟨_,rfl,h p hp hu⟩
theorem Wn {Q:Bool->Shared->Prop}:∀ {xs ys:List Value} {ns ms:List Int} (i:Nat),IntsAre xs ns->IntsAre ys ms->ns.length=ms.length->Q (HT.lexLt ns ms) s->KatLex prog w A true false Q (xs.zip ys) i s
 | _,_,_,_,i,.nil,.nil,_,h=>kat_nil h
 | _,_,_,_,_,.nil,.cons _ _ _,e,_=>by simp at e
 | _,_,_,_,_,.cons _ _ _,.nil,e,_=>by simp at e
 | _,_,_,_,i,.cons a t r,.cons b u r',e,h=>by
  rw[List.zip_cons_cons];refine kat_cons (wpAny_eqBool_int ?_);rw[HT.lexLt_cons] at h;by_cases c:a=b
  ·rw[if_pos c] at h
   have e2:(a==b)=true:=by rw[c]; exact beq_self_eq_true b
   rw[e2];exact kat_yes (Wn (i+1) r r' (by simpa using e) h)
  ·rw[if_neg c] at h
   have e2:(a==b)=false:=by simpa using c
   rw[e2];refine kat_no ?_;cases i with
   | zero=>exact oneLt_int h
   | succ i=>exact kat_one _ _ (PyProof.Rows.lt_int h)
def TupV (h:Heap) (k:Nat):List Value->List (List Int)->Prop
 | [],[]=>True
 | v::vs,r::rs=>(∃ (t:Addr) (xs:List Value),v = .ref t/\IsTup h t xs.toArray/\IntsAre xs r/\r.length=k)/\TupV h k vs rs
 | _,_=>False
theorem TupV.keep {h h':Heap} {k:Nat} (kp:∀ b o,h.get? b=some o->h'.get? b=some o):∀ {vs:List Value} {rs:List (List Int)},TupV h k vs rs->TupV h' k vs rs
 | [],[],_=>trivial
 | [],_::_,z=>z.elim
 | _::_,[],z=>z.elim
 | v::vs,r::rs,⟨⟨t,xs,e,⟨o,ho,hc⟩,z⟩,q⟩=>⟨⟨t,xs,e,⟨o,kp _ _ ho,hc⟩,z⟩,q.keep kp⟩
theorem TupV.at {h:Heap} {k:Nat}:∀ {vs:List Value} {rs:List (List Int)} {i:Nat},TupV h k vs rs->i<vs.length->∃ (t:Addr) (xs:List Value),vs.getD i Value.none = .ref t/\IsTup h t xs.toArray/\IntsAre xs (rs.getD i [])/\(rs.getD i []).length=k
 | [],[],_,_,z=>by simp at z
 | [],_::_,_,z,_=>z.elim
 | _::_,[],_,z,_=>z.elim
 | v::vs,r::rs,0,⟨⟨t,xs,e,z⟩,q⟩,_=>⟨t,xs,e,z⟩
 | v::vs,r::rs,i+1,⟨_,q⟩,l=>q.at (i:=i) (by simpa using l)
theorem TupV.firsts {h:Heap} {k:Nat}:∀ {vs:List Value} {rs:List (List Int)},TupV h (k+1) vs rs->∃ fs:List Value,KatTups h vs fs/\fs.length=vs.length/\∀ v∈fs,∃ (n:Int) (t:Tok),v = .int n t
 | [],[],_=>⟨[],trivial,rfl,fun _ z=>nomatch z⟩
 | [],_::_,z=>z.elim
 | _::_,[],z=>z.elim
 | v::vs,r::rs,⟨⟨t,xs,e,⟨o,ho,hc,n,hd⟩,ia,l⟩,q⟩=>by
  obtain⟨fs,h1,h2,h3⟩:=q.firsts;cases ia with
  | nil=>simp at l
  | cons a u rr=>
   refine⟨.int a u::fs,⟨⟨t,o,_,n,e,ho,hc,hd,by simp⟩,h1⟩,by rw[zAl,zAl,h2],fun y hy=>?_⟩;rcases zAp.mp hy with z | z
   ·exact⟨a,u,z⟩
   ·exact h3 y z
theorem Sc {M:Model} {h:Heap} (n:Int) (t:Tok):Looks M h (typeOf (.int n t)) (.type "int"):=fun A Q E s _ q=>wpAny_of_eq rfl q
theorem Sy {vs:List Value} {rs:List (List Int)} {k:Nat} (T:TupV s.heap (k+1) vs rs) (two:2<=vs.length):S5 prog w A vs LexO (fun i=>rs.getD i []) s:=by
 obtain⟨fs,h1,h2,h3⟩:=T.firsts;refine⟨tuples' (Value.type "int" != Value.type "tuple"),fun Q E q=>kat_kind h1 (by lia) (fun v hv=>?_) rfl q,fun i j hi hj C hC=>?_⟩
 ·obtain⟨n,t,rfl⟩:=h3 v hv
  exact Sc n t
 ·obtain⟨t,xs,e,⟨o,ho,hc,n,hd⟩,ia,l⟩:=T.at hi
  obtain⟨t',xs',e',⟨o',ho',hc',n',hd'⟩,ia',l'⟩:=T.at hj;rw[e,e'];have ls:=ia.length;have ls':=ia'.length;have nb:(Value.type "int" != Value.type "tuple")=true:=by ac_nf
  rw[nb];refine kat_lt ho hd ho' hd' ?_;have ef:decide (xs.toArray.size<xs'.toArray.size)=false:=decide_eq_false (by simp only [zAd]; lia);rw[ef];exact Wn 0 ia ia' (l.trans l'.symm) hC
end
def TupI (K:zAa) (H:Hp) (k:Nat):List V->List (List Int)->Prop
 | [],[]=>True
 | y::ys,r::rs=>(∃ t,y = .ref t/\SqT K H t (r.map V.int)/\r.length=k)/\TupI K H k ys rs
 | _,_=>False
theorem Lb:∀ {r:List Int} {us:List Value},Vals (r.map V.int) us->IntsAre us r
 | [],_,.nil=>.nil
 | a::r,_,.cons ⟨t,e⟩ rr=>by subst e; exact .cons a t (Lb rr)
section
variable {X:Cx}
theorem TupI.vals {pins:List (Addr×Obj)} {σ:St} {H:Hp} {s:Shared} {k:Nat} (I:Inv X pins σ H s):∀ {ys:List V} {rs:List (List Int)} {us:List Value},TupI X.K H k ys rs->Vals ys us->TupV s.heap k us rs
 | [],[],_,_,.nil=>trivial
 | [],_::_,_,z,_=>z.elim
 | _::_,[],_,z,_=>z.elim
 | y::ys,r::rs,_,⟨⟨t,e,h,l⟩,q⟩,.cons rv rr=>by
  subst e;cases rv;obtain⟨its,rv',p,_⟩:=I.tuple h;exact⟨⟨t,its,rfl,p,Lb rv',l⟩,q.vals I rr⟩
theorem Wl:∀ {ys:List V} {us:List Value} (i:Nat),Vals ys us->RelV (ys.getD i .non) (us.getD i Value.none)
 | _,_,_,.nil=>rfl
 | _,_,0,.cons r _=>r
 | _,_,i+1,.cons _ rr=>by
  rw[List.getD_cons_succ,List.getD_cons_succ];exact Wl i rr
theorem La {ys:List V} {us:List Value} (r:Vals ys us):∀ l:List Nat,Vals (l.map fun i=>ys.getD i .non) (l.map fun i=>us.getD i Value.none)
 | []=>.nil
 | i::l=>.cons (Wl i r) (La r l)
def DM (K:zAa):List V->Hp->VK->Prop:=fun xs H Q=>∃ a ys rs,∃ k:Nat,xs=[.ref a]/\SqL K H a ys/\ys.length<64/\TupI K H (k+1) ys rs /\
 ∀ (l:Addr) (p:Array Nat),H l=none->CRS.Pm ys.length p->CRS.Up (O:=LexO) (fun i=>rs.getD i []) p ys.length->Q (.ref l) (upd H l (.lst (p.toList.map fun i=>ys.getD i .non)))
theorem BH:Fk X (.builtin "sorted") (DM X.K):=by
 intro pins s σ H xs us Q I r h;obtain⟨a,ys,rs,k,rfl,hq,l64,T,q⟩:=h;obtain⟨u,rfl,rx⟩:=Ia r;cases rx;obtain⟨its,rv,pl,hz⟩:=I.list hq;have hl:=rv.length;have TV:=T.vals I rv;refine Tf (O:=LexO) (key:=fun i=>rs.getD i []) pl.isList (by lia) (fun A' h' kp two=>Sy (s:={ s with heap:=h' }) (TV.keep kp) two) fun p hp hu=>?_;obtain⟨e,he⟩:=sortedAll_at s.heap its (Fz its p).toArray;have lp:(p.toList.map fun i=>ys.getD i .non).length<=sizeLine:=by
  rw[zAb,zAw,hp.size]
  lia
 rw[<- hl] at hp hu;exact⟨.ref (s.heap.objs.size+1),_,I.laid (t':=s.toks) (fun b o q=>sortedAll_old q) (zBh _) (show ObjOk X.prog X.w _ _ _ (.lst _) from ⟨lp,Fz its p,e,La rv _,he⟩),rfl,q _ p (I.hok.fresh (zBh _)) hp hu⟩
def HN (K:zAa) (t:TE):TT:=fun σ H Q=>t σ H fun x H1=>∃ k,EL K x H1 k/\Q k H1
theorem R1 {e:Expr} {t:TE} (h:PE X e t) (he:∀ whole,isTrue e X.env whole=(do let v <- whole; standAt e.pos; holding [v] (truthy v)):=by intro _; rfl):PT X e (HN X.K t):=by
 intro pins s σ H Q I hw;exact isTrue_plain (Ca (h pins s σ H _ I hw) fun v s1 ⟨x,H1,I1,r1,q1⟩=>Y2 pins s1 σ H1 x v Q I1 r1 q1) (he _)
end
end L2
namespace L2
open PySem PySem.Spec PyProof.Rows
structure FunD (K:zAa) (x qual:Str) (st:Stmt) (f:Addr) (fd:zCx):Prop where
 ex:∃ (oc:Value) (od:Option Addr) (dV kV doc pm:Value) (an:Option Addr) (cdv ct:Value) (osl:Array (Option Value)),
  fd=zAV x qual (Cy st) (Ce st) (Ar st) dV kV doc pm an cdv ct/\K.lookup f=some ⟨oc,od,.func fd,osl⟩/\zBn K cdv qual=true
 kp:zAT K (.ref f)=true
section
variable {P:Program} {w:World} {K:zAa} {mg:Str->Option Value} {base:Heap}
theorem FunD.ok {x qual:Str} {st:Stmt} {f:Addr} {fd:zCx} {N ps:List Str} {k:Nat} {sp:Sp} (F:FunD K x qual st f fd) (S:Aw N ps (Ar st)) (len:∀ vs H Q E,sp vs H Q E->vs.length=ps.length)
  (hbody:∀ (cdv:Value) (A:Around) (outer:List Env) (s:Shared) (H:Hp) (vs:List V) (Q:VK) (E:XK),Room k (A.deeper (envOfC qual (Ar st) s.heap.objs.size f cdv))->sp vs H Q E ->
   ∃ t,PSs (Oe Da P w K mg base N qual (Ar st) f cdv A outer s H E).nox (Ce st) t/\t { nx:=fun _ H'=>Q .non H',rt:=Q } (Gx N vs) H):FnOk P w K mg base Da (k+1) f fd ps sp:=by
 obtain⟨oc,od,dV,kV,doc,pm,an,cdv,ct,osl,e,lk,hcd⟩:=F.ex;subst e;refine P6 lk hcd S len fun A outer s H vs Q E hr hsp=>?_;obtain⟨t,h,q⟩:=hbody cdv A outer s H vs Q E hr hsp;exact⟨t,h.nox,q⟩
theorem AU {x qual:Str} {st:Stmt} {f:Addr} {oc:Value} {od an:Option Addr} {osl:Array (Option Value)} {dV kV doc pm cdv ct:Value} (l:K.lookup f=some ⟨oc,od,.func (zAV x qual (Cy st) (Ce st) (Ar st) dV kV doc pm an cdv ct),osl⟩)
  (c:zBn K cdv qual=true) (k:zAT K (.ref f)=true):FunD K x qual st f (zAV x qual (Cy st) (Ce st) (Ar st) dV kV doc pm an cdv ct):=⟨⟨oc,od,dV,kV,doc,pm,an,cdv,ct,osl,rfl,l,c⟩,k⟩
end
theorem Pz {K K':zAa} {a:Addr} {xs:List V} {i1 i2:Nat} {tb:TS} {D:Jm} {σ:St} {H:Hp} (Pv:Nat->St->Hp->Prop) (h0:Pv 0 σ H) (hl:∀ i σ H,i<=xs.length->Pv i σ H->SqL K H a xs)
  (hs:∀ i x σ H t,xs[i]?=some x->Pv i σ H->H t=none->tb { D with nx:=Pv (i+1),ct:=Pv (i+1),bk:=D.nx } ((σ.set i1 (some (.int i))).set i2 (some x)) (upd H t (.tup [.int i,x]))) (hd:∀ σ H,Pv xs.length σ H->D.nx σ H) :
  ∃ W:Nat->Nat->St->Hp->Prop,(∃ m,W 0 m σ H)/\∀ i m σ H,W i m σ H ->
   ((FP K a).stop i H/\D.nx σ H)\/((FP K a).go i H/\∃ N:St->Hp->Prop,(∀ σ' H',N σ' H'->∃ m',m'<m/\W (i+1) m' σ' H')/\∀ x H',(FP K a).yld i H x H'->L5 K' 2 (Kv (Df i1) (Kv (Df i2) T1)) x σ H' fun σ2 H2=>tb { D with nx:=N,ct:=N,bk:=D.nx } σ2 H2):=by
 refine⟨fun i m σ H=>m=xs.length-i/\i<=xs.length/\Pv i σ H,⟨xs.length,by simp,zAk _,h0⟩,?_⟩;rintro i m σ H ⟨rfl,hi,p⟩;have q:=hl i σ H hi p;by_cases hlt:i<xs.length
 ·refine .inr ⟨⟨xs,xs[i],q,by simp [hlt]⟩,Pv (i+1),fun σ' H' p'=>⟨xs.length-(i+1),by omega,rfl,hlt,p'⟩,fun x H' y=>?_⟩
  obtain⟨t,z,ex,ht,hz,e3⟩:=y;subst ex e3;exact⟨t,_,rfl,SqT.of Af,rfl,_,_,rfl,_,_,rfl,rfl,hs i z σ H t (hz xs q) p ht⟩
 ·obtain rfl:i=xs.length:=by omega
  exact .inl ⟨⟨xs,q,zAf _⟩,hd σ H p⟩
def GR (K:zAa) (a b:Addr):It:=
 ⟨fun i H=>∃ xs ys x y,SqL K H a xs/\SqL K H b ys/\xs[i]?=some x/\ys[i]?=some y,
   fun i H v H'=>∃ t x y,v = .ref t/\H t=none/\(∀ xs,SqL K H a xs->xs[i]?=some x)/\(∀ ys,SqL K H b ys->ys[i]?=some y)/\H'=upd H t (.tup [x,y]),
   fun i H=>∃ xs ys,SqL K H a xs/\SqL K H b ys/\(xs.length<=i\/ys.length<=i)⟩
structure Zp (z u o i j:Addr):Prop where
 uz:u≠z
 oz:o≠z
 iz:i≠z
 jz:j≠z
 uo:u≠o
 ui:u≠i
 uj:u≠j
 oi:o≠i
 oj:o≠j
 ij:i≠j
theorem W8 (n:Nat):Zp (n+4) (n+2) (n+3) n (n+1):=
 ⟨zAm (by lia),zAm (by lia),zAm (by lia),zAm (by lia),zAm (by lia),zAF (by lia),zAF (by lia),zAF (by lia),zAF (by lia),zAm (by lia)⟩
def BX (a b z u o i j:Addr) (k:Nat) (h:Heap):Prop:=IsZip h z u o .none/\IsPair h u (.ref i) (.ref j)/\(∃ x y,IsPair h o x y)/\h.IsListIter i a k/\h.IsListIter j b k
theorem Nh {a b z u o i j:Addr} {k:Nat} {h:Heap} {xs ys:Array Value} (D:Zp z u o i j) (st:BX a b z u o i j k h) (ha:h.IsList a xs) (hb:h.IsList b ys):ZipApart z u o i j a b:=by
 obtain⟨hz,hu,⟨x,y,ho⟩,⟨oi,ei,ci,_⟩,⟨oj,ej,cj,_⟩⟩:=st;have ne:∀ {c d:Addr} {p q:Obj} {zs:Array Value},h.IsList c zs->h.get? d=some q->q.cls ≠ .type "list" -> c≠d:=fun {c d p q zs} hl hd hn e=>by
  obtain⟨p',hp,hc,_⟩:=hl;rw[e,hd] at hp;cases hp;exact hn hc
 have nz:(Value.type "zip") ≠ .type "list" := by ac_nf
 have nt:(Value.type "tuple") ≠ .type "list" := by ac_nf
 have ni:(Value.type "list_iterator") ≠ .type "list" := by ac_nf
 have hci:oi.cls ≠ .type "list" := by rw[ci]; exact ni
 have hcj:oj.cls ≠ .type "list" := by rw[cj]; exact ni
 constructor <;> first
  | exact D.uz | exact D.oz | exact D.iz | exact D.jz | exact D.uo | exact D.ui | exact D.uj | exact D.oi | exact D.oj | exact D.ij
  | exact ne (p:=oi) ha hz nz | exact ne (p:=oi) hb hz nz | exact ne (p:=oi) ha ho nt | exact ne (p:=oi) hb ho nt | exact ne (p:=oi) ha hu nt | exact ne (p:=oi) hb hu nt
  | exact ne (p:=oi) ha ei hci | exact ne (p:=oi) hb ei hci | exact ne (p:=oi) ha ej hcj | exact ne (p:=oi) hb ej hcj
theorem T3 {P:Program} {w:World} {K:zAa} {elts:List Expr} {n:Nat} {tp:Pos} (a b z u o i j:Addr) (D:Zp z u o i j) :
  Wa P w K (.Tuple elts n tp) (GR K a b) [z,u,o,i,j] z (BX a b z u o i j) where
 mem:=by simp
 obj:=fun k h st c hc=>by
  obtain⟨hz,hu,⟨x,y,ho⟩,⟨oi,ei,ci,di⟩,⟨oj,ej,cj,dj⟩⟩:=st;simp only [zAp,zBf,or_false] at hc;rcases hc with rfl | rfl | rfl | rfl | rfl
  ·exact⟨_,hz,fun v q=>by
    have q':Data.fields _=Data.cell v:=q;cases q'⟩
  ·exact⟨_,hu,fun v q=>by
    have q':Data.seq _ _=Data.cell v:=q;cases q'⟩
  ·exact⟨_,ho,fun v q=>by
    have q':Data.seq _ _=Data.cell v:=q;cases q'⟩
  ·exact⟨oi,ei,fun v q=>by rw[di] at q; cases q⟩
  ·exact⟨oj,ej,fun v q=>by rw[dj] at q; cases q⟩
 keep:=fun k h h' st kk=>by
  obtain⟨hz,hu,⟨x,y,ho⟩,h1,h2⟩:=st;exact⟨kk z (by simp) _ hz,kk u (by simp) _ hu,⟨x,y,kk o (by simp) _ ho⟩,h1.at fun ob e=>kk i (by simp) ob e,h2.at fun ob e=>kk j (by simp) ob e⟩
 item:=by
  intro X hP hw hK hc k pins s σ H E I hf st hg;subst hP hw hK;obtain⟨xs,ys,x,y,hq1,hq2,hx,hy⟩:=hg;obtain⟨its,rv,p,hz⟩:=I.list hq1;obtain⟨jts,rv',p',hz'⟩:=I.list hq2;obtain⟨v,hv,ru⟩:=rv.get hx;obtain⟨v',hv',ru'⟩:=rv'.get hy;have DD:=Nh D st p.isList p'.isList;obtain⟨sz,su,⟨x0,y0,so⟩,s1,s2⟩:=id st;have fz:=hf z (by simp);have fu:=hf u (by simp);have fo:=hf o (by simp);have fi:=hf i (by simp);have fj:=hf j (by simp);refine wpAny_pyNext_zip_item DD sz su so s1 s2 p.isList p'.isList (x:=v) (y:=v') (by simpa using hv) (by simpa using hv') fun h1 a1 a2 a3 a4 a5 a6 hk=>⟨_,rfl,?_⟩;refine wpAny_letOwnedTupleGo_zip a1 fun h2 hz2 hs2=>?_;have hs2':zBc z h1 h2:=hs2;have hzlt:z<s.heap.objs.size:=zAh sz;have hnT:H s.heap.objs.size=none:=I.hok.fresh (zAf _);have up:∀ c ob,c≠z->c≠o->c≠i->c≠j->s.heap.get? c=some ob->h2.get? c=some ob:=fun c ob c1 c2 c3 c4 q=>(hs2'.2 c c1).trans (hk c ob c1 c2 c3 c4 q);have nch:∀ c,c∉[z,o,i,j]->c≠z/\c≠o/\c≠i/\c≠j:=fun c hc=>by
   simp only [zAp,zBf,or_false,not_or] at hc;exact hc
  have ntr:∀ c ob,H c=some ob->c≠z/\c≠o/\c≠i/\c≠j:=fun c ob q=>
   ⟨fun e=>by (rw[e,fz.1] at q; cases q),fun e=>by (rw[e,fo.1] at q; cases q),fun e=>by (rw[e,fi.1] at q; cases q),fun e=>by (rw[e,fj.1] at q; cases q)⟩
  have up2:∀ c ob,c∉[z,o,i,j]->s.heap.get? c=some ob->h2.get? c=some ob:=fun c ob hc q=>up c ob (nch c hc).1 (nch c hc).2.1 (nch c hc).2.2.1 (nch c hc).2.2.2 q;have up3:∀ c ob ob',H c=some ob'->s.heap.get? c=some ob->h2.get? c=some ob:=fun c ob ob' hc q=>up c ob (ntr c ob' hc).1 (ntr c ob' hc).2.1 (ntr c ob' hc).2.2.1 (ntr c ob' hc).2.2.2 q;have htup:h2.get? s.heap.objs.size=some { cls:=.type "tuple",data:=.seq #[v,v'] }:=(hs2'.2 _ (zAF hzlt)).trans a5;have I1:Inv X pins σ (upd H s.heap.objs.size (.tup [x,y])) { s with heap:=h2,gens:=s.gens,drawn:=s.drawn,toks:=s.toks }:=by
   refine I.step (ch:=[z,o,i,j]) (fun c hc=>?_) (fun c ob _ _ hc q _=>up2 c ob hc q) (fun c ob _ _ hc q _=>⟨ob.slots,up2 c ob hc q⟩) (fun c ob _ q n=>by rw[Aq (zAm (zAh q))]; exact n)
    (fun c ob hc q=>⟨ob,up2 c ob hc q⟩) (fun c xs q=>by rw[Aq (Ap q hnT)]; exact q) (fun c ob u q=>by rw[Aq (Ap q hnT)]; exact q) (fun c ps q=>⟨#[],by rw[Aq (Ap q hnT),q]; simp⟩)
    (fun m hm=>?_) (fun c ob q=>?_) I.bare
   ·simp only [zAp,zBf,or_false] at hc
    rcases hc with rfl | rfl | rfl | rfl
    ·exact⟨fz.2.2.2.1,fz.2.1,fz.2.2.2.2.1,fz.2.2.2.2.2⟩
    ·exact⟨fo.2.2.2.1,fo.2.1,fo.2.2.2.2.1,fo.2.2.2.2.2⟩
    ·exact⟨fi.2.2.2.1,fi.2.1,fi.2.2.2.2.1,fi.2.2.2.2.2⟩
    ·exact⟨fj.2.2.2.1,fj.2.1,fj.2.2.2.2.1,fj.2.2.2.2.2⟩
   ·obtain⟨ob,es,ep,hoL,r⟩:=hm
    exact⟨ob,es,ep,up _ ob (Ne.symm fz.2.1) (Ne.symm fo.2.1) (Ne.symm fi.2.1) (Ne.symm fj.2.1) hoL,r⟩
   ·by_cases hb:c=s.heap.objs.size
    ·subst hb
     rw[Af] at q;cases q;exact⟨Bk (by show 2<=1000; decide),[v,v'],.cons ru (.cons ru' .nil),_,htup,rfl,_,rfl⟩
    ·rw[Aq hb] at q
     refine (I.hok c ob q).stay (fun d w' hd q2=>?_) (fun d q2=>by rw[Aq (Ap q2 hnT)]; exact q2) (fun d zs q2=>by rw[Aq (Ap q2 hnT)]; exact q2);rcases hd with rfl | hd
     ·exact up3 _ w' _ q q2
     ·exact up3 _ w' _ hd q2
  refine⟨.ref s.heap.objs.size,_,I1,rfl,⟨_,x,y,rfl,hnT,fun zs hy'=>by rw[I.list_inj hy' hq1]; exact hx,fun zs hy'=>by rw[I.list_inj hy' hq2]; exact hy,rfl⟩,⟨hz2,?_,⟨v,v',?_⟩,?_,?_⟩,fun c hc=>?_⟩
  ·exact (hs2'.2 u D.uz).trans (hk u _ D.uz D.uo D.ui D.uj su)
  ·exact (hs2'.2 o D.oz).trans a2
  ·exact a3.at fun ob q=>(hs2'.2 i D.iz).trans q
  ·exact a4.at fun ob q=>(hs2'.2 j D.jz).trans q
  ·have hl:c<s.heap.objs.size:=by
    simp only [zAp,zBf,or_false] at hc;rcases hc with rfl | rfl | rfl | rfl | rfl
    ·exact zAh sz
    ·exact zAh su
    ·exact zAh so
    ·obtain⟨_,q,_⟩:=s1; exact zAh q
    ·obtain⟨_,q,_⟩:=s2; exact zAh q
   rw[Aq (zAm hl)];exact (hf c hc).1
 done:=by
  intro X hP hw hK hc k pins s σ H E I hf st hg;subst hP hw hK;obtain⟨xs,ys,hq1,hq2,hle⟩:=hg;obtain⟨its,rv,p,hz⟩:=I.list hq1;obtain⟨jts,rv',p',hz'⟩:=I.list hq2;have DD:=Nh D st p.isList p'.isList;obtain⟨sz,su,⟨x0,y0,so⟩,s1,s2⟩:=id st;have fz:=hf z (by simp);have fo:=hf o (by simp);have fi:=hf i (by simp);have fj:=hf j (by simp);have hl:=rv.length;have hl':=rv'.length;refine wpAny_pyNext_zip_end (I.ok.hd hc) DD sz su so s1 s2 p.isList p'.isList ?_ fun h' hk=>⟨rfl,?_⟩
  ·rcases hle with e | e
   ·exact .inl (by simp; lia)
   ·exact .inr (by simp; lia)
  ·have nch:∀ c,c∉[z,o,i,j]->c≠z/\c≠o/\c≠i/\c≠j:=fun c hc=>by
    simp only [zAp,zBf,or_false,not_or] at hc;exact hc
   have ntr:∀ c ob,H c=some ob->c≠z/\c≠o/\c≠i/\c≠j:=fun c ob q=>
    ⟨fun e=>by (rw[e,fz.1] at q; cases q),fun e=>by (rw[e,fo.1] at q; cases q),fun e=>by (rw[e,fi.1] at q; cases q),fun e=>by (rw[e,fj.1] at q; cases q)⟩
   have up2:∀ c ob,c∉[z,o,i,j]->s.heap.get? c=some ob->h'.get? c=some ob:=fun c ob hc q=>hk c ob (nch c hc).1 (nch c hc).2.1 (nch c hc).2.2.1 (nch c hc).2.2.2 q;have up3:∀ c ob ob',H c=some ob'->s.heap.get? c=some ob->h'.get? c=some ob:=fun c ob ob' hc q=>hk c ob (ntr c ob' hc).1 (ntr c ob' hc).2.1 (ntr c ob' hc).2.2.1 (ntr c ob' hc).2.2.2 q;refine I.step (H':=H) (ch:=[z,o,i,j]) (fun c hc=>?_) (fun c ob _ _ hc q _=>up2 c ob hc q) (fun c ob _ _ hc q _=>⟨ob.slots,up2 c ob hc q⟩) (fun c ob _ q n=>n)
    (fun c ob hc q=>⟨ob,up2 c ob hc q⟩) (fun c xs q=>q) (fun c ob u q=>q) (fun c ps q=>⟨#[],by rw[q]; simp⟩)
    (fun m hm=>?_) (fun c ob q=>?_) I.bare
   ·simp only [zAp,zBf,or_false] at hc
    rcases hc with rfl | rfl | rfl | rfl
    ·exact⟨fz.2.2.2.1,fz.2.1,fz.2.2.2.2.1,fz.2.2.2.2.2⟩
    ·exact⟨fo.2.2.2.1,fo.2.1,fo.2.2.2.2.1,fo.2.2.2.2.2⟩
    ·exact⟨fi.2.2.2.1,fi.2.1,fi.2.2.2.2.1,fi.2.2.2.2.2⟩
    ·exact⟨fj.2.2.2.1,fj.2.1,fj.2.2.2.2.1,fj.2.2.2.2.2⟩
   ·obtain⟨ob,es,ep,hoL,r⟩:=hm
    exact⟨ob,es,ep,hk _ ob (Ne.symm fz.2.1) (Ne.symm fo.2.1) (Ne.symm fi.2.1) (Ne.symm fj.2.1) hoL,r⟩
   ·refine (I.hok c ob q).stay (fun d w' hd q2=>?_) (fun d q2=>q2) (fun d zs q2=>q2)
    rcases hd with rfl | hd
    ·exact up3 _ w' _ q q2
    ·exact up3 _ w' _ hd q2
 self:=fun _ _ _ _ _ st h=>wpAny_pyIter_zip st.1 h
def HY (K:zAa) (ta:TA):TI:=fun σ H R=>ta σ H fun vs H1=>∃ a b,vs=[.ref a,.ref b]/\(∃ xs,SqL K H1 a xs)/\(∃ ys,SqL K H1 b ys)/\R (GR K a b) H1
theorem EZ {X:Cx} {e1 e2:Expr} {ta:TA} {p pos tp:Pos} {elts:List Expr} {n:Nat} (hg:Gl X "zip") (hm:X.mg "zip" = none) (ha:PA X [e1,e2] ta) (hs:starEach [e1,e2] X.env=[(false,eval e1 X.env),(false,eval e2 X.env)]:=by rfl) (hs2:starEach [e2] X.env=[(false,eval e2 X.env)]:=by rfl) :
  PI X (.Tuple elts n tp) (.Call (.Name "zip" p) [e1,e2] [] pos) (HY X.K ta):=by
 intro pins s σ H R I h;refine Call_ (Dm I hg hm (show zCw "zip" = some (.type "zip") from rfl) (PyProof.Rows.callWith_type1 (Ca (ha pos pins s σ H _ I h) fun us s1 ⟨vs,H1,I1,r1,q1⟩=>?_) (by rw[hs,hs2]) (by rw[hs2]; rfl)));obtain⟨a,b,ev,⟨xs,hq1⟩,⟨ys,hq2⟩,q⟩:=q1;subst ev;cases r1 with
 | cons ra rr=>
  cases rr with
  | cons rb rr=>
   cases rr
   cases ra
   cases rb
   obtain⟨its,rv,pl,hz⟩:=I1.list hq1;obtain⟨jts,rv',pl',hz'⟩:=I1.list hq2;refine call_zip_2 pl.isList pl'.isList fun h' b1 b2 b3 b4 b5 b6 hk=>?_;refine wpAny_pyIter_zip b1 ?_;have I2:Inv X pins σ H1 { s1 with heap:=h' }:=I1.kept (t':=s1.toks) hk;refine⟨_,[s1.heap.objs.size+4,s1.heap.objs.size+2,s1.heap.objs.size+3,s1.heap.objs.size,s1.heap.objs.size+1],_,_,H1,rfl,I2,T3 a b (s1.heap.objs.size+4) (s1.heap.objs.size+2) (s1.heap.objs.size+3) s1.heap.objs.size (s1.heap.objs.size+1) (W8 _),⟨b1,b2,⟨_,_,b3⟩,b4,b5⟩,fun c hc=>?_,q⟩;have le:s1.heap.objs.size<=c:=by
    simp only [zAp,zBf,or_false] at hc;rcases hc with rfl | rfl | rfl | rfl | rfl <;> lia
   exact I1.fpOk le (I1.hok.fresh le)
theorem AM {K K':zAa} {a b:Addr} {xs ys:List V} {i1 i2:Nat} {tb:TS} {D:Jm} {σ:St} {H:Hp} (Pv:Nat->St->Hp->Prop) (h0:Pv 0 σ H) (hl:∀ i σ H,i<=min xs.length ys.length->Pv i σ H->SqL K H a xs/\SqL K H b ys)
  (hs:∀ i x y σ H t,xs[i]?=some x->ys[i]?=some y->Pv i σ H->H t=none->tb { D with nx:=Pv (i+1),ct:=Pv (i+1),bk:=D.nx } ((σ.set i1 (some x)).set i2 (some y)) (upd H t (.tup [x,y]))) (hd:∀ σ H,Pv (min xs.length ys.length) σ H->D.nx σ H) :
  ∃ W:Nat->Nat->St->Hp->Prop,(∃ m,W 0 m σ H)/\∀ i m σ H,W i m σ H ->
   ((GR K a b).stop i H/\D.nx σ H)\/((GR K a b).go i H/\∃ N:St->Hp->Prop,(∀ σ' H',N σ' H'->∃ m',m'<m/\W (i+1) m' σ' H')/\∀ x H',(GR K a b).yld i H x H'->L5 K' 2 (Kv (Df i1) (Kv (Df i2) T1)) x σ H' fun σ2 H2=>tb { D with nx:=N,ct:=N,bk:=D.nx } σ2 H2):=by
 refine⟨fun i m σ H=>m=min xs.length ys.length-i/\i<=min xs.length ys.length/\Pv i σ H,⟨min xs.length ys.length,rfl,zAk _,h0⟩,?_⟩;rintro i m σ H ⟨rfl,hi,p⟩;obtain⟨q1,q2⟩:=hl i σ H hi p;by_cases hlt:i<min xs.length ys.length
 ·have l1:i<xs.length:=by lia
  have l2:i<ys.length:=by lia
  refine .inr ⟨⟨xs,ys,xs[i],ys[i],q1,q2,by simp [l1],by simp [l2]⟩,Pv (i+1),fun σ' H' p'=>⟨min xs.length ys.length-(i+1),by lia,rfl,by lia,p'⟩,fun v H' y=>?_⟩;obtain⟨t,x,z,ex,ht,hx,hz,e3⟩:=y;subst ex e3;exact⟨t,_,rfl,SqT.of Af,rfl,_,_,rfl,_,_,rfl,rfl,hs i x z σ H t (hx xs q1) (hz ys q2) p ht⟩
 ·obtain rfl:i=min xs.length ys.length:=by lia
  exact .inl ⟨⟨xs,ys,q1,q2,by lia⟩,hd σ H p⟩
theorem D0 (l:List Nat):∀ n:Nat,(zAQ n l.toArray).foldl (· ++ ·) #[]=((zAQ n l).flatten).toArray:=fun n=>by
 have go:∀ (n:Nat) (a:List Nat),(zAQ n l.toArray).foldl (· ++ ·) a.toArray=(a++(zAQ n l).flatten).toArray:=fun n=>by
  induction n with
  | zero=>intro a; simp
  | succ n ih=>
   intro a;rw[List.replicate_succ,List.foldl_cons,List.replicate_succ,List.flatten_cons,<- zBH];have e:a.toArray++l.toArray=(a++l).toArray:=by simp
   rw[e];exact ih (a++l)
 have z:=go n []
 simpa using z
theorem Ys {X:Cx}:Jq X (binaryOp .Mult) (fun x y H Q=>∃ (l:List Nat) (n:Int),x = .str (tx l)/\y = .int n/\1<=n/\n<=1000/\l.length<=1000/\Q (.str (tx (zAQ n.toNat l).flatten)) H):=by
 intro pins s σ H x y v u Q I rx ry h;obtain⟨l,n,rfl,rfl,h1,h2,h3,q⟩:=h;obtain⟨t,rfl⟩:=rx;obtain⟨t',rfl⟩:=ry;have hl:(tx l).length=l.length:=Mn l;have small:l.length*n.toNat<=1000*1000:=Nat.mul_le_mul h3 (by lia);refine PySem.P.mul_str ?_ (fun _ _=>?_) (fun _ _=>?_) ?_
 ·rw[decide_eq_false (by lia),decide_eq_false (by lia)]; rfl
 ·rw[hl]
  have:(1000:Int)<=(2^63-1)/n:=Int.le_ediv_of_mul_le (by lia) (by lia)
  lia
 ·rw[hl]
  unfold Builtin.Str.tooLong;simp only [decide_eq_false_iff_not];have:=zCv
  lia
 ·rw[if_neg (by lia)]
  by_cases c:(n==1||(tx l).length==0)=true
  ·rw[if_pos c]
   refine⟨.str (tx (zAQ n.toNat l).flatten),H,I,⟨t,?_⟩,q⟩;have e:(zAQ n.toNat l).flatten=l:=by
    rcases (Bool.or_eq_true _ _).mp c with z | z
    ·have z':n=1:=by simpa using z
     subst z';simp
    ·have z':l=[]:=by
      rw[hl] at z;exact List.eq_nil_of_length_eq_zero (by simpa using z)
     subst z';simp
   rw[e]
  ·rw[if_neg c]
   refine⟨?_,.str (tx (zAQ n.toNat l).flatten),H,I.tok _,⟨s.toks,?_⟩,q⟩
   ·have e:=D0 l n.toNat
    show (⟨(zAQ n.toNat (tx l).cps).foldl (· ++ ·) #[]⟩:Str).length<=sizeLine;unfold tx;rw[e];have e2:(⟨((zAQ n.toNat l).flatten).toArray⟩:Str)=tx (zAQ n.toNat l).flatten:=rfl;rw[e2,Mn,AO,zCv,Nat.mul_comm]
    lia
   ·show Value.str ⟨(zAQ n.toNat (tx l).cps).foldl (· ++ ·) #[]⟩ _=Value.str (tx _) _
    have e:=D0 l n.toNat;unfold tx at *;rw[e]
section
variable {prog:Program} {w:World} {A:Around} {E:Value->Shared->Prop} {s:Shared}
end
section
variable {X:Cx} {pins:List (Addr×Obj)} {σ:St} {H:Hp} {s:Shared}
end
section
variable {P:Program} {w:World} {K:zAa} {mg:Str->Option Value} {base:Heap} {N ps:List Str} {qual:Str} {scope:Scope} {f:Addr} {cd:Value} {A:Around} {outer:List Env} {s0:Shared} {H0:Hp} {E:XK} {k:Nat} {sp:Sp} {x:Str} {st:Stmt} {fd:zCx}
end
section
variable {X:Cx} {k:Nat} {f:Addr} {fd:zCx} {ps:List Str} {sp:Sp} {x:Str} {p pos:Pos} {e:Expr} {es:List Expr} {t:TA} {W:St->XK}
end
section
variable {prog:Program} {w:World} {A:Around} {E:Value->Shared->Prop} {env:Env}
variable {nm q:Str} {C N:Addr} {bs bm bmB:List Value} {hdct:Bool} {sn:List Str} {sub:List Value} {ab:Bool} {col:Option Bool} {dd:Option Addr} {k0 k1 k2 k3 k5:Option Value} {B newId initId:String}
end
section
variable {X:Cx} {x n:Str} {Ch:Addr} {i:Nat} {body suite:List Stmt} {b₀ : Stmt} {tb:(St->XK)->TS} {ts:TS} {np hpos pos:Pos} {pins:List (Addr×Obj)} {σ:St} {H:Hp} {s:Shared} {e:Addr} {oe:Obj}
end
end L2
namespace L2
open PySem PySem.Spec PyProof.Rows PySem.W
section
variable {X:Cx} {pins:List (Addr×Obj)} {σ:St} {H H':Hp} {s:Shared}
theorem Inv.trackN {a:Addr} {o:HO} (I:Inv X pins σ H s) (fp:Iy X pins H a) (new:ObjOk X.prog X.w (upd H a o) s.heap a o):Inv X pins σ (upd H a o) s:=by
 obtain⟨hn,hL,_,h1,h2,h3⟩:=fp;have na:∀ b u,H b=some u->b≠a:=fun b u e z=>by rw[z,hn] at e; cases e
 refine I.step (h':=s.heap) (g':=s.gens) (d':=s.drawn) (t':=s.toks) (ch:=[a]) (fun b hb=>?_) (fun b o _ _ _ e _=>e) (fun b o _ _ _ e _=>⟨o.slots,e⟩) (fun b o hc e n=>?_) (fun b o _ e=>⟨o,e⟩)
  (fun b xs e=>by rw[Aq (na _ _ e)]; exact e) (fun b ob u e=>by rw[Aq (na _ _ e)]; exact e) (fun b ps e=>⟨#[],by rw[Aq (na _ _ e),e]; simp⟩) (fun m hm=>hm) (fun b u e=>?_) I.bare
 ·have e:b=a:=by simpa using hb
  subst e;exact⟨h1,hL,h2,h3⟩
 ·rw[Aq (fun z=>hc (by simp [z]))]
  exact n
 ·by_cases hb:b=a
  ·subst hb
   rw[Af] at e;cases e;exact new
  ·rw[Aq hb] at e
   exact (I.hok b u e).stay (fun _ _ _ q=>q) (fun c q=>by rw[Aq (na _ _ q)]; exact q) fun c xs q=>by rw[Aq (na _ _ q)]; exact q
theorem Inv.unpin {p:Addr×Obj} (I:Inv X (p::pins) σ H s):Inv X pins σ H s:=
 I.pins_of fun q hq=>I.pin q (zAC _ (zAs _ hq))
theorem Inv.pin1 (I:Inv X pins σ H s) {a:Addr} {ob:Obj} (e:s.heap.get? a=some ob) (hn:H a=none) (hL:a≠X.env.locals) (hf:a∉X.fs) (hd:∀ v,ob.data ≠ .cell v):Inv X ((a,ob)::pins) σ H s:=
 I.pins_of fun q hq=>by
  rcases zAp.mp hq with z | z
  ·subst z; exact⟨e,hn,hL,hf,hd⟩
  ·exact I.pin q (zAC _ z)
end
theorem Z5 {P:Program} {w:World} {K:zAa} {mg:Str->Option Value} {base:Heap} {A:Around} {outer:List Env} {s:Shared} {H:Hp} {f c':Addr} {name qual:Str} {params:Arguments} {body:Expr} {scope:Scope} {pm ctv:Value} {N ps:List Str}
  {vs:List V} {us:List Value} {Q:VK} {t:TE} (S:Aw N ps scope) (hr:Room 1 A) (e0:Env0 P w K mg base A outer s H) (hf:s.heap.get? f=some (kla_obj name qual params body scope [] pm c' ctv)) (hcd:s.heap.CodeRec (.ref c') qual)
  (hb:bindArgs (kla_fn name qual params body scope [] pm (.ref c') ctv) ⟨us,[]⟩=pure (ps.zip us)) (r:Vals vs us) (hl:vs.length=ps.length)
  (hbody:PE (Oe Da P w K mg base N qual scope f (.ref c') A outer s H E0).nox body t) (q:t (Gx N vs) H Q) :
  codeAny (model P w) A (.call (.ref f) ⟨us,[]⟩) (CR Da outer P w H s Q E0) s:=by
 have lim:s.heap.NoLimit:=e0.mod.nolimit.keeps fun b o e=>(e0.bs b o e).1;have hkind:∀ y∈ps.zip us,scope.names.lookup y.1=some .local\/(scope.names.lookup y.1=some .cell/\((cellsFrom (s.heap.objs.size+1) scope.names []).lookup y.1).isSome=true):=fun ⟨n,v⟩ hy=>by
  rcases S.par n (List.of_mem_zip hy).1 with q | q
  ·exact .inl q
  ·exact .inr ⟨q,zCk _ _ _ (.inl q)⟩
 refine kla_callFunE hr.depth hf rfl S.co S.gen rfl hcd ?_;rw[hb];refine zCu ?_;refine wpAny_newFunctionEnv_cells S.kind hkind fun env he s1 x=>?_;subst he;refine⟨lim.keeps x.toInCall.keep,kla_codeExpr ?_⟩;have I:Inv (Oe Da P w K mg base N qual scope f (.ref c') A outer s H E0) [] (Gx N vs) H s1:=Se S hr.hd e0 hl r x;refine wpAny_mono (hbody [] s1 (Gx N vs) H Q (I.wish _) q) (fun u s' ⟨v,H',J,rv,q'⟩=>?_) fun e s' hs=>(hs:False).elim;exact⟨v,H',J.os,J.bare,J.base,J.hok,rv,q'⟩
def V3 (c:Addr) (qual:Str):Heap->Prop:=fun h=>h.CodeRec (.ref c) qual
section
variable {X:Cx} {pins:List (Addr×Obj)} {σ:St} {H:Hp} {s:Shared}
end
section
variable {prog:Program} {w:World} {A:Around} {E:Value->Shared->Prop} {s:Shared}
theorem R3:∀ {ks vs:List Value},ks.length=vs.length->vs.length<2->((ks.toArray.zip vs.toArray).map (·.2))=(Fz vs (zAN vs.length).toArray).toArray
 | [],[],_,_=>by
  apply zCr.mp;simp [Fz]
 | [k],[v],_,_=>by
  apply zCr.mp;simp [Fz]
 | [],_::_,h,_=>by simp at h
 | _::_,[],h,_=>by simp at h
 | _::_::_,[_],h,_=>by simp at h
 | _,_::_::_,_,h=>absurd h (by simp)
theorem E4 {a kS:Addr} {ks vs:List Value} {n e1:Nat} {p:Array Nat} {st:SortSt} {P:PySem.Fin->Shared->Prop} (hk:s.heap.get? kS=some (seqObj "list" ks.toArray n)) (ha:s.heap.get? a=some (seqObj "list" #[] e1)) (hne:kS≠a)
  (hlk:ks.length<64) (h64:vs.length<64) (hp:CRS.Pm vs.length p) (hout:(arrOf st).map (·.2)=(Fz vs p).toArray) (hf:failedOf st=none)
  (h:P (.done (.ret .none)) { s with heap:=(s.heap.update kS (Obj.mapSeq fun _=>(#[]:Array Value))).update a (Obj.mapSeq fun _=>(Fz vs p).toArray) }) :
  wpAny (model prog w) A (ksk_tail a false e1 (.ref kS) st) P E s:=by
 have line:∀ k:Nat,k<64->k<=sizeLine:=fun k hk=>by rw[zCv]; lia
 have ha2:(s.heap.update kS (Obj.mapSeq fun _=>(#[]:Array Value))).get? a=some (seqObj "list" #[] e1):=(Heap.get?_update_ne _ _ _ _ (Ne.symm hne)).trans ha;unfold ksk_tail
 dsimp only
 rw[hout];refine zCt (listUpdate_at hk rfl ?_ (by rw[zAd]; exact line _ hlk) (zAk _));refine zCt (wpAny_letGo ?_);refine zCt (seqEpoch_at ha2 rfl ?_);simp only [zAW,if_false];refine zCt (listUpdate_at ha2 rfl ?_ (zAk _) (by rw[zAd,Pb hp]; exact Nat.le_succ_of_le (line _ h64)));rw[hf];simp only [bne_self_eq_false,zAW,if_false];exact zCu h
theorem EV {O:KeyOrd} {key:Nat->O.α} {a kS:Addr} {ks vs:List Value} {n e1:Nat} {P:PySem.Fin->Shared->Prop} (hk:s.heap.get? kS=some (seqObj "list" ks.toArray n)) (ha:s.heap.get? a=some (seqObj "list" #[] e1)) (hne:kS≠a)
  (hl:ks.length=vs.length) (h64:vs.length<64) (ask:2<=vs.length->S5 prog w A ks O key s)
  (h:∀ p,CRS.Pm vs.length p->CRS.Up key p vs.length->P (.done (.ret .none)) { s with heap:=(s.heap.update kS (Obj.mapSeq fun _=>(#[]:Array Value))).update a (Obj.mapSeq fun _=>(Fz vs p).toArray) }) :
  wpAny (model prog w) A (ksk_end a false vs.toArray e1 (.ref kS) ks.toArray) P E s:=by
 have sz:vs.toArray.size=vs.length:=zAd ..;unfold ksk_end
 dsimp only
 simp only [zAW,if_false];by_cases few:vs.toArray.size<2
 ·rw[if_pos few,if_pos few]
  refine zCt (zCu ?_);rw[StateT.run_pure];refine zCt (zCu ?_);refine E4 (p:=(zAN vs.length).toArray) hk ha hne (by lia) h64 (Array.Perm.refl _) (R3 hl (by lia)) rfl (h _ (Array.Perm.refl _) fun i j hij hj=>?_);rw[show i=j by lia];exact KeyOrd.kle_refl _
 ·rw[if_neg few,if_neg few]
  have two:2<=vs.length:=by lia
  obtain⟨κ,kind,less⟩:=ask two;refine zCt (kind _ _ ?_);have tree:(kas_sort vs.length).kasWp (kas_ask prog w A κ ks) (fun p s'=>s'=s/\CRS.Pm vs.length p/\CRS.Up key p vs.length) s:=
   CRS.run_wp (lt:=CRS.ltK key) (V:=fun i=>i<vs.length) (fun i j C hi hj hC=>less i j (by lia) (by lia) C hC) (fun p hp=>⟨rfl,hp⟩) _ (CRS.run_sort (by lia) fun p h1 h2=>⟨h1,h2⟩)
  refine zCt (wpAny_mono (kat_run (ks:=ks) (vs:=vs) (Q:=fun st' s'=>s'=s/\failedOf st'=none/\∃ p,CRS.Pm vs.length p/\CRS.Up key p vs.length/\(arrOf st').map (·.2)=(Fz vs p).toArray)
   hl two h64 (fun p st' s' _ har hf ⟨es,g1,g2⟩=>⟨es,hf,p,g1,g2,kat_snds hl har⟩) tree) ?_ fun _ _ e=>e)
  rintro ⟨⟨⟩,st'⟩ s' ⟨rfl,hf,p,hp,hu,eo⟩;exact E4 hk ha hne (by lia) h64 hp eo hf (h p hp hu)
end
def Key4 (K:zAa) (H:Hp):List V->List (List Int)->Prop
 | [],[]=>True
 | y::ys,r::rs=>(∃ (t:Addr) (d k n:Int) (v:V),y = .ref t/\SqT K H t [.int d,.int k,.int n,v]/\r=[d,k,n])/\Key4 K H ys rs
 | _,_=>False
theorem Key4.len {K:zAa} {H:Hp}:∀ {ys:List V} {rs:List (List Int)},Key4 K H ys rs->ys.length=rs.length
 | [],[],_=>rfl
 | [],_::_,z=>z.elim
 | _::_,[],z=>z.elim
 | v::vs,r::rs,z=>by rw[zAl,zAl,z.2.len]
theorem Key4.get {K:zAa} {H:Hp}:∀ {ys:List V} {rs:List (List Int)} {i:Nat} {y:V},Key4 K H ys rs->ys[i]?=some y->∃ (t:Addr) (d k n:Int) (v:V),y = .ref t/\SqT K H t [.int d,.int k,.int n,v]/\rs[i]?=some [d,k,n]
 | [],[],_,_,_,e=>by simp at e
 | [],_::_,_,_,z,_=>z.elim
 | _::_,[],_,_,z,_=>z.elim
 | y::ys,r::rs,0,z,⟨⟨t,d,k,n,v,e,h,er⟩,_⟩,q=>by
  simp at q;subst q;exact⟨t,d,k,n,v,e,h,by rw[er]; rfl⟩
 | y::ys,r::rs,i+1,z,⟨_,q⟩,e=>by
  obtain⟨t,d,k,n,v,h1,h2,h3⟩:=q.get (i:=i) (by simpa using e);exact⟨t,d,k,n,v,h1,h2,by simpa using h3⟩
theorem TupI.app {K:zAa} {H:Hp} {k:Nat} {t:Addr} {r:List Int} (h:SqT K H t (r.map V.int)) (l:r.length=k):∀ {ys:List V} {rs:List (List Int)},TupI K H k ys rs->TupI K H k (ys++[.ref t]) (rs++[r])
 | [],[],_=>⟨⟨t,rfl,h,l⟩,trivial⟩
 | [],_::_,z=>z.elim
 | _::_,[],z=>z.elim
 | y::ys,q::rs,⟨z,y'⟩=>⟨z,TupI.app h l y'⟩
theorem TupI.mono {K:zAa} {H H':Hp} {k:Nat} (s:∀ t xs,SqT K H t xs->SqT K H' t xs):∀ {ys:List V} {rs:List (List Int)},TupI K H k ys rs->TupI K H' k ys rs
 | [],[],_=>trivial
 | [],_::_,z=>z.elim
 | _::_,[],z=>z.elim
 | y::ys,q::rs,⟨⟨t,e,h,l⟩,y'⟩=>⟨⟨t,e,s _ _ h,l⟩,TupI.mono s y'⟩
theorem TupI.len {K:zAa} {H:Hp} {k:Nat}:∀ {ys:List V} {rs:List (List Int)},TupI K H k ys rs->ys.length=rs.length
 | [],[],_=>rfl
 | [],_::_,z=>z.elim
 | _::_,[],z=>z.elim
 | y::ys,q::rs,z=>by rw[zAl,zAl,z.2.len]
theorem BA {K:zAa} {H:Hp} {l:Addr} {xs ys:List V} (hl:H l=some (.lst xs)):∀ t zs,SqT K H t zs->SqT K (upd H l (.lst ys)) t zs:=fun t zs h=>by
 rcases h with (h | ⟨o,h⟩) | h
 ·exact .inl (.inl (by rw[Aq (fun z=>by rw[z,hl] at h; cases h)]; exact h))
 ·exact .inl (.inr ⟨o,by rw[Aq (fun z=>by rw[z,hl] at h; cases h)]; exact h⟩)
 ·exact .inr h
theorem Yd {K:zAa} {H H':Hp} (s:∀ b o,H b=some o->H' b=some o):∀ t zs,SqT K H t zs->SqT K H' t zs:=fun t zs h=>by
 rcases h with (h | ⟨o,h⟩) | h
 ·exact .inl (.inl (s _ _ h))
 ·exact .inl (.inr ⟨o,s _ _ h⟩)
 ·exact .inr h
section
variable {X:Cx} {pins:List (Addr×Obj)} {σ:St} {H:Hp} {s:Shared}
def FV (X:Cx) (qual:Str) (params:Arguments) (body:Expr) (scope:Scope):Prop:=Aw ["entry"] ["entry"] scope /\
 (∀ (pm:Value) (c':Addr) (ctv u:Value),bindArgs (kla_fn "<lambda>" qual params body scope [] pm (.ref c') ctv) ⟨[u],[]⟩=pure [(("entry" : Str),u)]) /\
 ∀ (A:Around) (outer:List Env) (s:Shared) (H:Hp) (f c':Addr),PE (Oe Da X.prog X.w X.K X.mg X.base ["entry"] qual scope f (.ref c') A outer s H E0).nox body (JL (HS X.K) (Kz 0) E1 (CO (tC (.int 3))))
theorem AD {f c':Addr} {qual:Str} {params:Arguments} {body:Expr} {scope:Scope} {pm ctv:Value} {A:Around} {t:Addr} {d k n:Int} {v:V} {E:Value->Shared->Prop} {R:Value->Shared->Prop} (B:FV X qual params body scope) (hA:A.frames=some X.stack) (hr:Room 1 A)
  (I:Inv X pins σ H s) (hf:s.heap.get? f=some (kla_obj "<lambda>" qual params body scope [] pm c' ctv)) (hc:H c'=some (.ext (V3 c' qual))) (ht:SqT X.K H t [.int d,.int k,.int n,v])
  (h:∀ p s',Inv X pins σ (upd H p (.tup [.int d,.int k,.int n])) s'->H p=none->R (.ref p) s'):wpAny (model X.prog X.w) A (call (.ref f) [.ref t]) R E s:=by
 obtain⟨S,bd,pb⟩:=B;have e0:=I.env0;have e1:Env0 X.prog X.w X.K X.mg X.base A X.stack s H:=⟨hA,e0.mod,e0.bs,e0.bsz,e0.funs,e0.frf,e0.hok,e0.bare⟩;have cr:s.heap.CodeRec (.ref c') qual:=(I.hok c' _ hc).1;refine wpAny_call (codeAny_mono (Z5 (vs:=[.ref t]) (us:=[.ref t]) (ps:=["entry"]) (N:=["entry"]) (Q:=fun x H'=>∃ p,x = .ref p/\H p=none/\H'=upd H p (.tup [.int d,.int k,.int n])) S hr e1 hf cr (bd pm c' ctv _) (.cons rfl .nil) rfl (pb A X.stack s H f c') ?_) fun r s' hq=>?_)
 ·refine⟨_,rfl,_,rfl,t,_,rfl,ht,by show ¬ (HT.sIx 4 0 none=0/\HT.sIx 4 4 (some 3)=4); decide,fun p hp=>⟨p,rfl,hp,rfl⟩⟩
 ·cases r with
  | error e=>exact False.elim hq
  | ok fl=>
   cases fl with
   | ret u=>
    obtain⟨x,H',I',rx,p,rfl,hp,rfl⟩:=I.after hq;cases rx;exact h p s' I' hp
   | next=>exact False.elim hq
   | brk=>exact False.elim hq
   | cont=>exact False.elim hq
theorem GV {a f c':Addr} {qual:Str} {params:Arguments} {body:Expr} {scope:Scope} {pm ctv:Value} {A:Around} {ys:List V} {rs:List (List Int)} {vs:List Value} {n:Nat} {E:Value->Shared->Prop} {R:PySem.Fin->Shared->Prop}
  (B:FV X qual params body scope) (hA:A.frames=some X.stack) (hr:Room 1 A) (I:Inv X ((f,kla_obj "<lambda>" qual params body scope [] pm c' ctv)::pins) σ H s) (hc:H c'=some (.ext (V3 c' qual)))
  (ha:s.heap.get? a=some (seqObj "list" vs.toArray n)) (fa:Iy X ((f,kla_obj "<lambda>" qual params body scope [] pm c' ctv)::pins) H a) (rv:Vals ys vs) (KY:Key4 X.K H ys rs) (h64:ys.length<64)
  (h:∀ p s' H',Inv X pins σ H' s'->(∀ b o,H b=some o->H' b=some o)->CRS.Pm ys.length p->CRS.Up (O:=LexO) (fun i=>rs.getD i []) p ys.length->H' a=some (.lst (p.toList.map fun i=>ys.getD i .non))->R (.done (.ret .none)) s') :
  wpAny (model X.prog X.w) A (ksk_tree a (.ref f) false) R E s:=by
 have lv:=rv.length;have line:∀ k:Nat,k<64->k<=sizeLine:=fun k hk=>by rw[zCv]; lia
 have s1:=zBc.update s.heap a (Obj.mapSeq fun _=>(#[]:Array Value));obtain⟨e1,ho1⟩:∃ e1,(s.heap.update a (Obj.mapSeq fun _=>(#[]:Array Value))).get? a=some (seqObj "list" #[] e1):=⟨_,get?_update_seq ha fun _ => #[]⟩;unfold ksk_tree;refine zCt (listItems_at ha rfl ?_);refine zCt (listUpdate_at ha rfl ?_ (by rw[zAd]; exact line _ (by lia)) (zAk _));refine zCt (seqEpoch_at ho1 rfl ?_);refine zCt (wpAny_newTuple ?_ (by show vs.length<=_; exact line _ (by lia)));refine zCt (wpAny_newList ?_ (zAk _));refine wpAny_holding ?_;have J1:Inv X ((f,kla_obj "<lambda>" qual params body scope [] pm c' ctv)::pins) σ H { s with heap:=s.heap.update a (Obj.mapSeq fun _=>(#[]:Array Value)),toks:=s.toks }:=
  I.turned (fun b o hb e=>(s1.2 b hb).trans e) fa.1 fa.2.1 fa.2.2.2.1 fa.2.2.2.2.1 fa.2.2.2.2.2
 have J2:Inv X ((f,kla_obj "<lambda>" qual params body scope [] pm c' ctv)::pins) σ H { s with heap:=(s.heap.update a (Obj.mapSeq fun _=>(#[]:Array Value))).push (seqObj "tuple" vs.toArray 0),toks:=s.toks }:=
  J1.kept fun b o e=>zAc _ e
 have ho2:((s.heap.update a (Obj.mapSeq fun _=>(#[]:Array Value))).push (seqObj "tuple" vs.toArray 0)).get? a=some (seqObj "list" #[] e1):=zAc _ ho1;have nf:H ((s.heap.update a (Obj.mapSeq fun _=>(#[]:Array Value))).push (seqObj "tuple" vs.toArray 0)).objs.size=none:=J2.fresh;have J3:=J2.lnew (ys:=[]) (its:=[]) (t':=s.toks) .nil (zAk _);have ho3:(((s.heap.update a (Obj.mapSeq fun _=>(#[]:Array Value))).push (seqObj "tuple" vs.toArray 0)).push (seqObj "list" #[] 0)).get? a=some (seqObj "list" #[] e1):=zAc _ ho2;have nea:a≠((s.heap.update a (Obj.mapSeq fun _=>(#[]:Array Value))).push (seqObj "tuple" vs.toArray 0)).objs.size:=zAm (zAh ho2);show wpAny _ _ _ _ _ { s with heap:=((s.heap.update a (Obj.mapSeq fun _=>(#[]:Array Value))).push (seqObj "tuple" vs.toArray 0)).push (seqObj "list" #[] 0),toks:=s.toks };have J4:Inv X ((a,seqObj "list" #[] e1)::(f,kla_obj "<lambda>" qual params body scope [] pm c' ctv)::pins) σ (upd H ((s.heap.update a (Obj.mapSeq fun _=>(#[]:Array Value))).push (seqObj "tuple" vs.toArray 0)).objs.size (.lst [])) { s with heap:=((s.heap.update a (Obj.mapSeq fun _=>(#[]:Array Value))).push (seqObj "tuple" vs.toArray 0)).push (seqObj "list" #[] 0),toks:=s.toks }:=
  J3.pin1 ho3 (by rw[Aq nea]; exact fa.1) fa.2.1 fa.2.2.1 (fun v z=>by cases z)
 revert J4
 generalize ((s.heap.update a (Obj.mapSeq fun _=>(#[]:Array Value))).push (seqObj "tuple" vs.toArray 0)).objs.size=kS at nf nea ⊢;intro J4;have S4:∀ b o,H b=some o->upd H kS (.lst []) b=some o:=fun b o e=>by rw[Aq (Ap e nf)]; exact e
 have hk4:upd H kS (.lst []) kS=some (.lst []):=Af;generalize upd H kS (.lst [])=H4 at J4 S4 hk4;unfold ksk_rest;refine zCt (wpAny_rule ?_)
 first
  | rw[List.forIn_toArray]
  | (rw[<- zCd]; simp only [List.toList_toArray])
  | rw[<- zCd]
 refine zCt (ksk_fold (fun i s'=>∃ H' ts,Inv X ((a,seqObj "list" #[] e1)::(f,kla_obj "<lambda>" qual params body scope [] pm c' ctv)::pins) σ H' s'/\(∀ b o,H b=some o->H' b=some o)/\H' kS=some (.lst ts)/\TupI X.K H' 3 ts (rs.take i))
  vs 0 _ ⟨H4,[],J4,S4,hk4,by rw[zBJ]; trivial⟩ (fun j x s' hx ⟨H',ts,J,SH,hk,TI⟩=>?_) (fun s' ⟨H',ts,J,SH,hk,TI⟩=>?_))
 ·rw[Nat.zero_add] at TI ⊢
  have hj:j<vs.length:=(zAj.mp hx).1;have hj':j<ys.length:=by lia
  obtain⟨t,d,k,m,v,ey,ht,er⟩:=KY.get (i:=j) (zAn hj');obtain⟨u,hu,ru⟩:=rv.get (zAn hj');rw[hx] at hu;cases hu;rw[ey] at ru;cases ru;have fo:=(J.pin (f,kla_obj "<lambda>" qual params body scope [] pm c' ctv) (zAC _ (by simp))).1;refine zCt (wpAny_attempt (AD B hA hr J fo (SH _ _ hc) (Yd SH _ _ ht) fun p s'' J2 hp=>?_));have hk2:upd H' p (.tup [.int d,.int k,.int m]) kS=some (.lst ts):=by rw[Aq (Ap hk hp)]; exact hk
  obtain⟨z,its,n',ri,li,e⟩:=J2.lstM hk2;have lt:=TI.len;have lt':ts.length<=j:=by rw[lt,zAK]; lia
  dsimp only
  refine zCt (listUpdate_at e rfl ?_ (by rw[zAd,<- li]; exact line _ (by lia)) (zAA (zBP (Array.size_push ..)) (by rw[zAd,<- li,zCv]; lia)));have J3:=J2.lset (t':=s''.toks) (f:=(·.push (.ref p))) (its':=its++[.ref p]) (ys:=ts++[.ref p]) hk2 e (by simp) (ri.append (Paired.cons (show RelV (.ref p) (.ref p) from rfl) .nil)) (by rw[zAi]; exact line _ (by show ts.length+1<64; lia));refine zCu ⟨rfl,_,_,J3,fun b o q=>?_,Af,?_⟩
  ·rw[Aq (Ap q nf),Aq (Ap (SH _ _ q) hp)]
   exact SH _ _ q
  ·have hp2:SqT X.K (upd H' p (.tup [.int d,.int k,.int m])) p ([d,k,m].map V.int):=SqT.of Af
   have T2:TupI X.K (upd H' p (.tup [.int d,.int k,.int m])) 3 ts (rs.take j):=TI.mono (Yd fun b o q=>by rw[Aq (Ap q hp)]; exact q);rw[zCj,er];exact (T2.app hp2 rfl).mono (BA hk2)
 ·rw[Nat.zero_add] at TI
  have lr:=KY.len;rw[List.take_of_length_le (by lia)] at TI;obtain⟨z,its,n',ri,li,e⟩:=J.lstM hk;have lt:=TI.len;refine zCt (listItems_at e rfl ?_);have ha':=(J.pin (a,seqObj "list" #[] e1) (zAC _ (by simp))).1;have ha'':=(J.pin (a,seqObj "list" #[] e1) (zAC _ (by simp))).2.1;refine EV (O:=LexO) (key:=fun i=>rs.getD i []) e ha' (Ne.symm nea) (by lia) (by lia) (fun two=>Sy (TI.vals J ri) (by lia)) fun p hp hu=>?_;have J5:=J.unpin.unpin.lset (t':=s'.toks) (f:=fun _=>(#[]:Array Value)) (its':=[]) (ys:=[]) hk e (by simp) .nil (zAk _);have s2:=zBc.update (s'.heap.update kS (Obj.mapSeq fun _=>(#[]:Array Value))) a (Obj.mapSeq fun _=>(Fz vs p).toArray);have ha2:(s'.heap.update kS (Obj.mapSeq fun _=>(#[]:Array Value))).get? a=some (seqObj "list" #[] e1):=(Heap.get?_update_ne _ _ _ _ nea).trans ha';have an:upd H' kS (.lst []) a=none:=by rw[Aq nea]; exact ha''
  have fa':Iy X pins (upd H' kS (.lst [])) a:=⟨an,fa.2.1,fa.2.2.1,fa.2.2.2.1,fa.2.2.2.2.1,fun q hq=>fa.2.2.2.2.2 q (by
   rcases zAy.mp hq with z | z
   ·exact zBl _ z
   ·exact zAC _ (zAs _ z))⟩
  have J6:=J5.turned (t':=s'.toks) (fun b o hb e=>(s2.2 b hb).trans e) fa'.1 fa'.2.1 fa'.2.2.2.1 fa'.2.2.2.2.1 fa'.2.2.2.2.2;have lp:(p.toList.map fun i=>ys.getD i .non).length<=sizeLine:=by
   rw[zAb,zAw,hp.size];exact line _ (by lia)
  have J7:=J6.trackN (o:=.lst (p.toList.map fun i=>ys.getD i .non)) fa' ⟨lp,Fz vs p,_,La rv _,get?_update_seq ha2 fun _=>(Fz vs p).toArray⟩;rw[<- lv] at hp hu;refine h p _ _ J7 (fun b o q=>?_) hp hu Af;rw[Aq (Ap q fa.1),Aq (Ap q nf)];exact SH _ _ q
end
section
variable {X:Cx}
end
theorem M4 {X:Cx} {k:Nat} {x:Str} {C:Addr} {ps:List Str} {sp:Sp} {p pos:Pos} (M:Gw X.prog X.w X.K X.mg X.base k x C ps sp) (hr:Room (k+1) X.A) (hg:Gl X x) (hdb:(x==("__debug__" : Str))=false:=by decide) :
  PE X (.Call (.Name x p) [] [] pos) (C9 C sp [] E0 Zh):=by
 obtain⟨f,fd,mk,F,b,hm⟩:=M.ex;exact W9 mk F hr hg hm b .nil Sn hdb
end L2
namespace CRL
open PySem L2
def IS (H H':Hp):Prop:=∀ t xs,H t=some (.tup xs)->H' t=some (.tup xs)
theorem Es {H H':Hp} (s:Same H H'):IS H H':=fun t xs h=>s t _ h
theorem Jh {H:Hp} {l:Addr} {xs:List V} (h:H l=some (.lst xs)) (o:HO):IS H (upd H l o):=fun t zs z=>by
 rw[Aq (Ii z h (by intro e; cases e))];exact z
end CRL
namespace L2
open PySem PySem.Spec PyProof.Rows PySem.W
section
variable {P:Program} {w:World} {K:zAa} {mg:Str->Option Value} {base:Heap} {k:Nat} {f:Addr} {fd:zCx} {ps:List Str} {sp sp1 sp2:Sp}
theorem FnOk.ofX (F:FnOk P w K mg base (P5 P w) k f fd ps sp):FnOk P w K mg base Da k f fd ps (fun vs H Q _=>sp vs H Q E0):=
 ⟨fun vs H Q _ h=>F.len vs H Q E0 h,fun A outer s H args us vs Q E hr e b r h=>codeAny_mono (F.run A outer s H args us vs Q E0 hr e b r h) fun q s' hq=>by
  cases q with
  | error v=>
   obtain⟨_,_,_,_,_,_,_,_,_,_,_,z⟩:=(show P5 P w _ _ _ _ _ _ from hq);exact z
  | ok fl=>cases fl <;> exact hq⟩
end
section
variable {X:Cx} {k:Nat} {f C:Addr} {fd:zCx} {ps:List Str} {sp:Sp} {x:Str} {p pos:Pos} {e:Expr} {es:List Expr} {t:TA} {W:St->XK} {dvs:List V} {ds:List Value}
end
def T4 (K:zAa):V->List V->Hp->VK->Prop:=fun x vs H Q=>∃ (l:Addr) (xs:List V) (y:V) (j:Nat),x = .ref l/\vs=[y]/\SqL K H l xs/\Gc y=true/\xs.all Gc=true/\xs.length<=1000/\(∃ z,xs[j]?=some z/\F4 z y=true) /\
 (∀ m z,m<j->xs[m]?=some z->F4 z y=false)/\Q (.int (j:Int)) H
theorem P0 {X:Cx}:GJ X "list.index" (T4 X.K):=by
 intro pins s σ H x vs v us Q I rx rv h;obtain⟨l,xs,y,j,rfl,rfl,hH,fy,fx,l3,⟨z,hz,ez⟩,no,q⟩:=h;cases rx;obtain⟨u,rfl,ru⟩:=rv.one;obtain⟨its,r,p,_⟩:=I.list hH;obtain⟨⟨cls,dd,data,sl⟩,ho,hc,n,hd⟩:=p.isList;simp only at hc hd;subst hc hd;have lr:=r.length;have hj:j<xs.length:=(zAj.mp hz).1;have at_:∀ (m:Nat) (hm:m<its.length),∃ z,xs[m]?=some z/\N5 y its[m]=F4 z y:=fun m hm=>by
  have e1:xs[m]?=some (xs[m]'(by lia)):=zAn (by lia);obtain⟨u',hu',ru'⟩:=r.get e1;have eu:its[m]=u':=(zAj.mp hu').2;exact⟨_,e1,by rw[eu]; exact Yt ru' (zCq.mp fx _ (zBj _))⟩
 refine call_meets F.slot_list_index ⟨_,ho,rfl⟩ F.entry_list_index (F.args_list_index_2 _ _) (SeqAt.list_indexAt l its.toArray n dd sl u (N5 y) j (by rw[zAd]; lia) (by lia) ?_ ?_) ⟨ho,?_,?_⟩
 ·obtain⟨z',e1,e2⟩:=at_ j (by lia)
  rw[hz] at e1;cases e1;show N5 y its[j]=true;rw[e2];exact ez
 ·intro m hm hlt
  rw[zAd] at hm;obtain⟨z',e1,e2⟩:=at_ m hm;show N5 y its[m]=false;rw[e2];exact no m z' hlt e1
 ·intro z hz'
  exact Kw ru fy r fx z (by simpa using hz')
 ·exact⟨.int _,H,I.tok _,⟨s.toks,rfl⟩,q⟩
theorem N1 {X:Cx} {K:zAa} (h:X.K=K):GJ X "list.index" (T4 K):=h▸P0
theorem D1 {X:Cx} {K:zAa} (hK:X.K=K:=by rfl):Jq X (compareOp .In) (JJ K false):=hK▸Sg
theorem Z9 {X:Cx} {K:zAa} (hu:X.A.units<cLine) (hK:X.K=K:=by rfl):Jq X (compareOp .Eq) (GW K false):=hK▸DU hu
end L2
namespace CST
open PySem
abbrev Rs (xs:Array Nat):Prop:=xs.toList.Pairwise (· < ·)
theorem C4 {xs:Array Nat} (h:Rs xs) {i k:Nat} (hik:i<k) (hk:k<xs.size):xs[i]'(by lia)<xs[k]:=by
 have:=zBI.mp h i k (by simpa using (by lia:i<xs.size)) (by simpa using hk) hik
 simpa using this
structure JI (xs:Array Nat) (j p:Nat):Prop where
 le:p<=xs.size
 lo:∀ i (h:i<xs.size),i<p->xs[i]<j
 hi:∀ i (h:i<xs.size),p<=i->j<=xs[i]
theorem Qm {xs:Array Nat} {j:Nat} (r:Rs xs):∀ (f lo hi:Nat),hi-lo<=f->lo<=hi->hi<=xs.size->(∀ i (h:i<xs.size),i<lo->xs[i]<j)->(∀ i (h:i<xs.size),hi<=i->j<=xs[i])->JI xs j (SetTable.below.go xs j f lo hi)
 | 0,lo,hi,h0,h1,h2,a,b=>by
  have e:lo=hi:=by omega
  subst e;unfold SetTable.below.go;exact⟨h2,a,b⟩
 | f+1,lo,hi,h0,h1,h2,a,b=>by
  unfold SetTable.below.go;by_cases c:lo<hi
  ·rw[if_pos c]
   have hm:(lo+hi)/2<xs.size:=by omega
   have e:xs.getD ((lo+hi)/2) j=xs[(lo+hi)/2]:=by simp [zCh,hm]
   dsimp only
   rw[e];by_cases d:xs[(lo+hi)/2]<j
   ·rw[if_pos d]
    refine Qm r f _ hi (by omega) (by omega) h2 (fun i h hi'=>?_) b;by_cases q:i=(lo+hi)/2
    ·subst q; exact d
    ·exact Nat.lt_trans (C4 r (by omega) hm) d
   ·rw[if_neg d]
    refine Qm r f lo _ (by omega) (by omega) (by omega) a (fun i h hi'=>?_);by_cases q:i=(lo+hi)/2
    ·subst q; omega
    ·have:=C4 r (i:=(lo+hi)/2) (k:=i) (by omega) h
     omega
  ·rw[if_neg c]
   have e:lo=hi:=by omega
   subst e;exact⟨h2,a,b⟩
theorem Qw {xs:Array Nat} {j:Nat} (r:Rs xs):JI xs j (SetTable.below xs j):=by
 unfold SetTable.below;exact Qm r _ _ _ (by lia) (zAk _) (zAf _) (fun i _ h=>absurd h (zBp _)) (fun i h h'=>absurd h' (by lia))
structure Jp (by_:Bool) (t:SetTable):Prop where
 rs:Rs t.place
 dm:t.dummies = #[]
 ld:by_=false->t.led=true
theorem Ou (b:Bool):Jp b (.fresh 0 0 (!b)):=⟨List.Pairwise.nil,rfl,fun h=>by rw[h]; rfl⟩
theorem Fm {b:Bool} {t:SetTable} (g:Jp b t) (n:Nat):Jp b (t.standIn n):=by
 refine⟨?_,rfl,g.ld⟩;show (Array.range n).toList.Pairwise (· < ·);rw[Array.toList_range];exact List.pairwise_lt_range
theorem Yx {b:Bool} {t:SetTable} (g:Jp b t) (p:Bool):Jp b { t with plain:=p }:=⟨g.rs,g.dm,g.ld⟩
theorem Vz (j:Nat):SetTable.has #[] j=false:=by
 unfold SetTable.has;have:(#[]:Array Nat)[SetTable.below #[] j]?=none:=by simp
 rw[this];rfl
theorem B1 {t:SetTable} {j:Nat} (dm:t.dummies = #[]):t.slot j = .empty\/∃ i,t.slot j = .live i:=by
 unfold SetTable.slot
 dsimp only
 by_cases c:(t.place[SetTable.below t.place j]?==some j)=true
 ·rw[if_pos c]; exact .inr ⟨_,rfl⟩
 ·rw[if_neg c,dm,Vz]
  exact .inl rfl
theorem A3 {t:SetTable} {j:Nat} (r:Rs t.place) (h:t.slot j = .empty):∀ i (hi:i<t.place.size),t.place[i]≠j:=fun i hi e=>by
 have b:=Qw (j:=j) r;have hp:SetTable.below t.place j<=i:=by
  rcases Nat.lt_or_ge i (SetTable.below t.place j) with z | z
  ·have:=b.lo i hi z; lia
  ·exact z
 have hps:SetTable.below t.place j<t.place.size:=by lia
 have e2:t.place[SetTable.below t.place j]=j:=by
  have h1:=b.hi _ hps (zAf _);rcases Nat.lt_or_eq_of_le hp with z | z
  ·have:=C4 r z hi; lia
  ·have:t.place[SetTable.below t.place j]=t.place[i]:=by congr 1
   lia
 unfold SetTable.slot at h
 dsimp only at h
 have c:(t.place[SetTable.below t.place j]?==some j)=true:=by
  rw[zAH hps,e2];simp
 rw[if_pos c] at h;cases h
theorem Xv {t:SetTable} {ha:Nat->Int} {h:Int} (dm:t.dummies = #[]):∀ (f:Nat) (p:SetTable.Probe) (j:Nat) (d:Option Nat),p.dummy=none->SetTable.probe.go t ha h f p=some (.empty j d)->d=none/\t.slot j = .empty
 | 0,p,j,d,_,e=>by unfold SetTable.probe.go at e; cases e
 | f+1,p,j,d,hp,e=>by
  unfold SetTable.probe.go at e;have adv:(t.advance p).dummy=none:=by
   unfold SetTable.advance
   split
   ·exact hp
   ·exact hp
  rcases B1 (t:=t) (j:=p.j) dm with z | ⟨i,z⟩
  ·rw[z] at e
   dsimp only at e
   injection e with e;injection e with e1 e2;subst e1;exact⟨e2▸hp,z⟩
  ·rw[z] at e
   dsimp only at e
   split at e
   ·injection e with e; cases e
   ·exact Xv dm f _ j d adv e
theorem CY {t:SetTable} {j:Nat} (r:Rs t.place) (h:∀ i (hi:i<t.place.size),t.place[i]≠j):Rs (t.put j).1.place:=by
 have b:=Qw (j:=j) r;show (SetTable.insertAt t.place (SetTable.below t.place j) j).toList.Pairwise (· < ·);rw[SetTable.toList_insertAt];have e1:∀ x∈t.place.toList.take (SetTable.below t.place j),x<j:=fun x hx=>by
  obtain⟨i,hi,ei⟩:=zBq hx;rw[List.getElem_take] at ei;have hi':i<SetTable.below t.place j/\i<t.place.size:=by
   rw[zAK,zAw] at hi; lia
  have:=b.lo i hi'.2 hi'.1;rw[<- ei]
  simpa using this
 have e2:∀ x∈t.place.toList.drop (SetTable.below t.place j),j<x:=fun x hx=>by
  obtain⟨i,hi,ei⟩:=zBq hx;rw[List.getElem_drop] at ei;have hi':SetTable.below t.place j+i<t.place.size:=by
   rw[List.length_drop,zAw] at hi; lia
  have h1:=b.hi _ hi' (zBV _ _);have h2:=h _ hi';rw[<- ei];have:j<t.place[SetTable.below t.place j+i]:=by lia
  simpa using this
 refine List.pairwise_append.mpr ⟨r.sublist (List.take_sublist _ _),zBu.mpr ⟨e2,r.sublist (List.drop_sublist _ _)⟩,fun a ha b' hb=>?_⟩;rcases zAp.mp hb with z | z
 ·rw[z]; exact e1 a ha
 ·exact Nat.lt_trans (e1 a ha) (e2 b' z)
theorem Wb {b:Bool} {t:SetTable} {j:Nat} (g:Jp b t) (h:t.slot j = .empty):Jp b (t.put j).1:=by
 refine⟨CY g.rs (A3 g.rs h),?_,g.ld⟩;show (if SetTable.has t.dummies j then _ else t.dummies) = #[];rw[g.dm,Vz];rfl
set_option tactic.hygienic true in
theorem Wv {b:Bool} {t:SetTable} (g:Jp b t) (es:Array (Int×Value)) (h:Int) (x:Value):Jp b (layNew t es h x).2.1/\(layNew t es h x).2.2.1=false:=by
 unfold layNew;cases e:t.freeSlot h with
 | none=>exact⟨Fm g _,rfl⟩
 | some p=>
  obtain⟨sl,wd⟩:=p;unfold SetTable.freeSlot at e
  split at e
  ·rename_i j d hp
   injection e with e;injection e with e1 e2;obtain⟨hd,hs⟩:=Xv g.dm _ _ j d rfl hp;subst hd
   dsimp only at e1 e2 ⊢
   have e1':j=sl:=e1;subst e1';refine⟨?_,e2.symm⟩;unfold SetTable.orStandIn
   split
   ·exact Wb g hs
   ·exact Fm (Wb g hs) _
  ·cases e
theorem Pi (o:Nat->Option Nat):∀ l:List Nat,((l.filterMap fun j=>(o j).map (j,·)).map (·.1)).Sublist l
 | []=>List.Sublist.slnil
 | j::l=>by
  rw[zBX];cases e:o j with
  | none=>exact (Pi o l).cons j
  | some k=>exact (Pi o l).cons₂ j
theorem Rl {b:Bool} {t:SetTable} (g:Jp b t) (es:Array (Int×Value)) (wanted:Nat):Jp b (relayAll t es wanted).2.1:=by
 unfold relayAll;cases e:t.relaid (es.map (·.1)) wanted with
 | none=>exact Fm g _
 | some p=>
  obtain⟨t',order⟩:=p
  dsimp only
  split
  ·unfold SetTable.relaid SetTable.laid at e
   cases e2:SetTable.layClean (SetTable.sizeAbove wanted-1) (es.map (·.1)) with
   | none=>rw[e2] at e; cases e
   | some owner=>
    rw[e2] at e;have e3:=Option.some.inj e;injection e3 with e4 _;subst e4;refine⟨?_,rfl,g.ld⟩;show (List.toArray _).toList.Pairwise (· < ·);rw[List.toList_toArray];exact List.pairwise_lt_range.sublist (Pi _ _)
  ·exact Fm g _
section
variable {prog:Program} {w:World} {K:Type} [DecidableEq K] (knd:KeyKind prog w K)
def CH (e:Int×Value) (k:K):Prop:=knd.is k e.2=true/\e.1=knd.hash k/\e.2.scannable=true
def GSet (h:Heap) (a:Addr) (ks:List K):Prop:=∃ o es ep t,h.get? a=some o/\o.ExactSet/\o.data = .set es ep t/\Paired (CH knd) es.toList ks/\ks.Nodup/\es.size<scanBound/\t.fits es.size=true/\Jp (w.params.followText "set-order") t
variable {knd}
variable {A:Around} {E:Value->Shared->Prop} {s:Shared}
theorem Ni {α β:Type} {F:α->β->Prop}:∀ {l l':List α} {ks:List β},l'.Perm l->Paired F l ks->∃ ks',ks'.Perm ks/\Paired F l' ks':=by
 intro l l' ks p;have q:=p.symm;clear p
 induction q generalizing ks with
 | nil=>intro h; exact⟨ks,List.Perm.refl _,h⟩
 | cons x _ ih=>
  intro h;cases h with
  | cons r t=>
   obtain⟨ks',p',h'⟩:=ih t;exact⟨_,p'.cons _,.cons r h'⟩
 | swap x y l=>
  intro h;cases h with
  | cons r t=>
   cases t with
   | cons r2 t2=>exact⟨_,List.Perm.swap _ _ _,.cons r2 (.cons r t2)⟩
 | trans _ _ ih1 ih2=>
  intro h;obtain⟨k1,p1,h1⟩:=ih1 h;obtain⟨k2,p2,h2⟩:=ih2 h1;exact⟨k2,p2.trans p1,h2⟩
theorem No {α β:Type} {F:α->β->Prop} {a:α} {b:β} (r:F a b):∀ {l:List α} {ks:List β},Paired F l ks->Paired F (l++[a]) (ks++[b])
 | _,_,.nil=>.cons r .nil
 | _,_,.cons q t=>.cons q (No r t)
theorem Ki {α β:Type} {F:α->β->Prop}:∀ {l:List α} {ks:List β},Paired F l ks->∀ a∈l,∃ b∈ks,F a b
 | _,_,.nil,_,h=>nomatch h
 | _,_,.cons q t,a,h=>by
  rcases zAp.mp h with z | z
  ·subst z; exact⟨_,zAo,q⟩
  ·obtain⟨b,hb,r⟩:=Ki t a z
   exact⟨b,zAs _ hb,r⟩
theorem Nq {α β:Type} {F:α->β->Prop}:∀ {l:List α} {ks:List β},Paired F l ks->∀ b∈ks,∃ a∈l,F a b
 | _,_,.nil,_,h=>nomatch h
 | _,_,.cons q t,a,h=>by
  rcases zAp.mp h with z | z
  ·subst z; exact⟨_,zAo,q⟩
  ·obtain⟨b,hb,r⟩:=Nq t a z
   exact⟨b,zAs _ hb,r⟩
theorem GZ {l:List (Int×Value)} {ks:List K} (h:Paired (CH knd) l ks):ElemsOf knd l:=fun e he=>by
 obtain⟨k,_,r1,r2,r3⟩:=Ki h e he;exact⟨⟨k,r1,r2⟩,r3⟩
theorem Wx {l:List (Int×Value)} {ks:List K} {k:K} (h:Paired (CH knd) l ks):(l.findIdx? fun e=>knd.is k e.2)=none↔k∉ks:=by
 rw[List.findIdx?_eq_none_iff];constructor
 ·intro z hk
  obtain⟨e,he,r⟩:=Nq h k hk;have:=z e he;rw[r.1] at this;cases this
 ·intro z e he
  obtain⟨k',hk',r⟩:=Ki h e he;cases c:knd.is k e.2 with
  | false=>rfl
  | true=>exact absurd (knd.inj _ _ _ c r.1▸hk') z
theorem stored {h:Heap} {a:Addr} {o:Obj} {es es':Array (Int×Value)} {ep:Nat} {t t':SetTable} {ks:List K} (ho:h.get? a=some o) (hex:o.ExactSet) (hd:o.data = .set es ep t) (hp:Paired (CH knd) es'.toList ks) (nd:ks.Nodup) (hb:es'.size<scanBound) (hf:t'.fits es'.size=true)
  (g:Jp (w.params.followText "set-order") t'):(h.update a (Obj.putSet es' t')).get? a=some { o with data:=.set es' (ep+1) t' }/\GSet knd (h.update a (Obj.putSet es' t')) a ks:=by
 have hg:(h.update a (Obj.putSet es' t')).get? a=some { o with data:=.set es' (ep+1) t' }:=by
  have q:=zAX (Obj.putSet es' t') ho (by rw[putSet_of es' t' hd]; rfl)
  rwa [putSet_of es' t' hd] at q
 exact⟨hg,_,es',ep+1,t',hg,hex,rfl,hp,nd,hb,hf,g⟩
theorem Wy {a:Addr} {o:Obj} {es es1:Array (Int×Value)} {ep:Nat} {t t2:SetTable} {ks1:List K} (ho:s.heap.get? a=some o) (hex:o.ExactSet) (hd:o.data = .set es ep t) (hp:Paired (CH knd) es1.toList ks1) (nd:ks1.Nodup) (hb:es1.size<scanBound) (hf:t2.fits es1.size=true)
  (g:Jp (w.params.followText "set-order") t2) {wd:Bool} {gw:Bool->Sem Unit} (hgw:∀ (b:Bool) (s₁ : Shared) (Q':Unit->Shared->Prop),Q' () s₁ -> wpAny (model prog w) A (gw b) Q' E s₁) {R:Option Bool->Shared->Prop}
  (h:∀ h' ks',zBc a s.heap h'->GSet knd h' a ks'->ks'.Perm ks1->R (some true) { s with heap:=h' }) :
  wpAny (model prog w) A (do
   storeSet a es1 t2
   if (!wd&&t2.tooFull)=true then do
    gw (relayAll t2 es1 (SetTable.grown es1.size)).2.2
    storeSet a (relayAll t2 es1 (SetTable.grown es1.size)).1 (relayAll t2 es1 (SetTable.grown es1.size)).2.1
    pure (some true)
   else pure (some true)) R E s:=by
 obtain⟨ho1,G1⟩:=stored (knd:=knd) ho hex hd hp nd hb hf g;have sb:=zBc.update s.heap a (Obj.putSet es1 t2);refine zCt (wpAny_storeSet_of ho hd ?_ (fits_of_scanBound hb));by_cases c:(!wd&&t2.tooFull)=true
 ·rw[if_pos c]
  have p2:=relayAll_perm t2 es1 (SetTable.grown es1.size);have f2:=relayAll_fits t2 es1 (SetTable.grown es1.size);have g2:=Rl g es1 (SetTable.grown es1.size);generalize relayAll t2 es1 (SetTable.grown es1.size)=Y at p2 f2 g2;obtain⟨es2,t3,gv⟩:=Y
  dsimp only at p2 f2 g2
  have z2:es2.size=es1.size:=by rw[<- zAw,p2.length_eq,zAw]
  obtain⟨ks2,q2,hp2⟩:=Ni p2 hp;refine zCt (hgw _ _ _ (zCt (wpAny_storeSet_of ho1 rfl ?_ (fits_of_scanBound (by rw[z2]; exact hb)))));obtain⟨_,G2⟩:=stored (knd:=knd) ho1 hex rfl hp2 (q2.nodup_iff.mpr nd) (by rw[z2]; exact hb) f2 g2;exact zCu (h _ ks2 (sb.trans (zBc.update _ a _)) G2 q2)
 ·rw[if_neg c]
  exact zCu (h _ ks1 sb G1 (List.Perm.refl _))
theorem CJ {a:Addr} {ks:List K} {k:K} {x:Value} {Q:Bool->Shared->Prop} (hkey:knd.is k x=true) (hsc:x.scannable=true) (hS:GSet knd s.heap a ks) (hroom:ks.length+1<scanBound)
  (h:∀ b h' ks',zBc a s.heap h'->GSet knd h' a ks'->ks'.Perm (if k∈ks then ks else ks++[k])->Q b { s with heap:=h' }) :
  wpAny (model prog w) A (setAddHashed a x (knd.hash k)) Q E s:=by
 obtain⟨o,es,ep,t,ho,hex,hd,hp,nd,hb,hf,g⟩:=id hS;have hel:=GZ hp;have lk:es.size=ks.length:=by rw[<- zAw]; exact Paired.length hp
 unfold setAddHashed setAddHashedIn;refine wpAny_holding (zCt (wpAny_setState_of ho hd hf ?_))
 dsimp only
 rw[byScan_of hsc hb hel];simp only [↓reduceIte];unfold setAddByScan;refine zCt (zCt (wpAny_rule (zCt (wpAny_setScan_of hkey ho hd hf hel ?_))));cases hr:List.findIdx? (fun e=>knd.is k e.2) es.toList with
 | some j=>
  have hk:k∈ks:=Classical.byContradiction fun z=>by rw[(Wx hp).mpr z] at hr; cases hr
  dsimp only
  refine zCu (zCu ?_);have e:s={ s with heap:=s.heap }:=by cases s; rfl
  rw[e];exact h false s.heap ks (zBc.refl a s.heap) hS (by rw[if_pos hk])
 | none=>
  have hk:k∉ks:=(Wx hp).mp hr
  dsimp only
  have p1:=layNew_perm t es (knd.hash k) x;have f1:=layNew_fits t es (knd.hash k) x;have g1:=(Wv g es (knd.hash k) x).1;generalize layNew t es (knd.hash k) x=Y at p1 f1 g1 ⊢;obtain⟨es1,t1,wd,gv⟩:=Y
  dsimp only at p1 f1 g1 ⊢
  rw[Array.toList_push] at p1;obtain⟨ks1,q1,hp1⟩:=Ni p1 (No (show CH knd (knd.hash k,x) k from ⟨hkey,rfl,hsc⟩) hp);have nd1:ks1.Nodup:=q1.nodup_iff.mpr (List.nodup_append.mpr ⟨nd,by simp,fun a ha b hb'=>by rw[zAg] at hb'; subst hb'; rintro rfl; exact hk ha⟩);have b1:es1.size<scanBound:=by rw[<- zAw,p1.length_eq,zAi,zAw,lk]; exact hroom
  have fin:∀ h' ks',zBc a s.heap h'->GSet knd h' a ks'->ks'.Perm ks1->Q true { s with heap:=h' }:=fun h' ks' sb G p=>h true h' ks' sb G (by rw[if_neg hk]; exact p.trans q1);have gw:∀ (b:Bool) (s₁ : Shared) (Q':Unit->Shared->Prop),Q' () s₁ -> wpAny (model prog w) A (match b with | true=>rule "set.scan.the-table-gave-way" | false=>pure ()) Q' E s₁ :=
   fun b s₁ Q' hq=>by cases b <;> first | exact zCu hq | exact wpAny_rule hq
  refine zCt (gw _ _ _ ?_)
  split
  ·refine zCt ?_
   rw[hashByValue_scannable 8 hsc];refine zCu ?_;refine Wy (ks1:=ks1) (knd:=knd) ho hex hd hp1 nd1 b1 ?_ ?_ gw fun h' ks' sb G p=>?_
   ·split
    ·exact f1
    ·exact SetTable.fits_plain_off f1
   ·split
    ·exact g1
    ·exact Yx g1 _
   ·exact zCu (fin h' ks' sb G p)
  ·refine zCt (zCu ?_)
   simp only [↓reduceIte];exact Wy (ks1:=ks1) (knd:=knd) ho hex hd hp1 nd1 b1 f1 g1 gw fun h' ks' sb G p=>zCu (fin h' ks' sb G p)
end
theorem slot_sin:Slot "set_iterator" "__next__" "set_iterator.__next__" :=
 .of (owner := "set_iterator") (n := "__next__") (by rw[typeLookup_type,builtinLookup_eq_fast]; kernel_rfl) (by ac_nf) (by ac_nf) (by ac_nf) (by first | exact .inl (by ac_nf) | exact .inr (by ac_nf)) (by rw[isSubtype_type]; kernel_rfl)
theorem Ji:entryFor table "set_iterator.__next__" = some Builtin.«set_iterator.__next__» := entryFor_of_fast (by kernel_rfl)
theorem Lk (a:Value):argsOk "set_iterator.__next__" ⟨[a],[]⟩:=by unfold argsOk; kernel_rfl
theorem Wm:Slot "set_iterator" "__iter__" "set_iterator.__iter__" :=
 .of (owner := "set_iterator") (n := "__iter__") (by rw[typeLookup_type,builtinLookup_eq_fast]; kernel_rfl) (by ac_nf) (by ac_nf) (by ac_nf) (by first | exact .inl (by ac_nf) | exact .inr (by ac_nf)) (by rw[isSubtype_type]; kernel_rfl)
theorem X8 (a:Value):argsOk "set_iterator.__iter__" ⟨[a],[]⟩:=by unfold argsOk; kernel_rfl
theorem M2:entryFor table "set_iterator.__iter__" = some Builtin.«dict_keyiterator.__iter__» :=
 entryFor_alias (id' := "dict_keyiterator.__iter__") (by kernel_rfl) rfl (by ac_nf) (by kernel_rfl)
theorem X4:entryFor table "set.__iter__" = some Builtin.«frozenset.__iter__» :=
 entryFor_alias (id' := "frozenset.__iter__") (by kernel_rfl) rfl (by ac_nf) (by kernel_rfl)
def Zc (h:Heap) (I:Addr) (first:Value) (i:Nat) (a:Addr) (n ep:Nat):Prop:=h.get? I=some { cls:=.type "set_iterator",dict:=none,data:=.fields #[first,rawInt i,.ref a,rawInt n,rawInt ep],slots := #[] }
section
variable {prog:Program} {w:World} {A:Around} {E:Value->Shared->Prop} {s:Shared} {I a:Addr} {i n ep slot nx:Nat} {x:Value} {o:Obj} {es:Array (Int×Value)} {t:SetTable} {Q:Option Value->Shared->Prop}
theorem Yl (hit:Zc s.heap I (rawInt slot) i a n ep) (ho:s.heap.get? a=some o) (hd:o.data = .set es ep t) (hf:t.fits es.size=true) (hn:es.size=n)
  (hx:∀ (A':Around) (Q':Option (Value×Nat)->Shared->Prop) (E':Value->Shared->Prop),Q' (some (x,nx)) s->wpAny (model prog w) A' (setNext a slot i ep) Q' E' s)
  (h:∀ h',Zc h' I (rawInt nx) (i+1) a n ep->zBc I s.heap h'->Q (some x) { s with heap:=h' }):wpAny (model prog w) A (pyNext (.ref I)) Q E s:=by
 have ty:s.TypeIs (.ref I) "set_iterator" := ⟨_,hit,rfl⟩;unfold pyNext;refine zCt (wpAny_attempt (wpAny_callSpecial?_slot (name:=Str.ofString "__next__") ty slot_sin (wpAny_call_entry slot_sin ty Ji ?_ (Lk _))));unfold Builtin.«set_iterator.__next__»;refine zCt (m:=slotArgs "__next__" 0 _) (zCu (zCt (wpAny_fieldsOf hit rfl ?_)))
 dsimp only [rawInt]
 refine zCt (wpAny_setEntries_of ho hd hf ?_);rw[hn];rw[if_neg (by simp)];refine zCt (hx _ _ _ ?_)
 dsimp only
 refine zCt (wpAny_setField_rec hit (by simp) fun h1 e1 sb1=>?_);refine zCt (wpAny_setField_rec e1 (by simp) fun h2 e2 sb2=>?_);refine zCu ⟨_,rfl,zCu (h h2 ?_ (sb1.trans sb2))⟩;unfold Zc;rw[e2];simp [rawInt]
end
theorem Ke {α:Type}:∀ {l:List α} {i:Nat} (h:i<l.length),(l[i]::l.eraseIdx i).Perm l
 | [],_,h=>absurd h (zBp _)
 | x::l,0,_=>List.Perm.refl _
 | x::l,i+1,h=>(List.Perm.swap x _ _).trans ((Ke (l:=l) (i:=i) (by simpa using h)).cons x)
theorem F8 {α:Type} (f:Nat->Nat):∀ (m k:Nat) (l:List α) (out:Array α),l.length=m->(pickOrder.go f m k l out).toList.Perm (out.toList++l)
 | 0,k,l,out,h=>by
  have e:l=[]:=zCi.mp h;subst e;unfold pickOrder.go;rw[zAJ]
 | m+1,k,l,out,h=>by
  have hl:f k%l.length<l.length:=Nat.mod_lt _ (by lia);unfold pickOrder.go;rw[zAn hl]
  dsimp only
  refine (F8 f m (k+1) _ _ (by rw[List.length_eraseIdx,if_pos hl]; lia)).trans ?_;rw[Array.toList_push,zBH];exact (Ke hl).append_left _
theorem Mv {α:Type} (f:Nat->Nat) (xs:Array α):(pickOrder f xs).toList.Perm xs.toList:=by
 unfold pickOrder;exact (F8 f xs.size 0 xs.toList #[] zAw).trans (by simp)
def Hj (p:Array Nat) (i:Nat):Nat:=if i=0 then 0 else p.getD (i-1) 0+1
theorem Qo {p:Array Nat} (r:Rs p) {i:Nat} (hi:i<=p.size):SetTable.below p (Hj p i)=i:=by
 have b:=Qw (j:=Hj p i) r;unfold Hj at b ⊢;by_cases c:i=0
 ·rw[if_pos c] at b ⊢
  rw[c];rcases Nat.eq_zero_or_pos (SetTable.below p 0) with z | z
  ·exact z
  ·have h0:0<p.size:=zAq z b.le
   exact absurd (b.lo 0 h0 z) (zBp _)
 ·rw[if_neg c] at b ⊢
  have hp:i-1<p.size:=by lia
  have e:p.getD (i-1) 0=p[i-1]:=by simp [zCh,hp]
  rw[e] at b ⊢;rcases zBN (SetTable.below p (p[i-1]+1)) i with z | z | z
  ·have:=b.hi (i-1) hp (by lia)
   lia
  ·exact z
  ·have hs:i<p.size:=zAq z b.le
   have h1:=b.lo i hs z;have h2:=C4 r (i:=i-1) (k:=i) (by lia) hs
   lia
section
variable {prog:Program} {w:World} {A:Around} {E:Value->Shared->Prop} {s:Shared} {a:Addr} {o:Obj} {es:Array (Int×Value)} {ep:Nat} {t:SetTable}
theorem Oo {Q:Bool->Shared->Prop} (h:Q (w.params.followText "set-order") s):wpAny (model prog w) A setsByText Q E s:=by
 unfold setsByText;exact zCt (wpAny_askSetting (zCu h))
theorem Ta {slot i:Nat} {Q:Option (Value×Nat)->Shared->Prop} (bt:w.params.followText "set-order" = true) (ho:s.heap.get? a=some o) (hd:o.data = .set es ep t) (hf:t.fits es.size=true)
  (h:Q (((pickOrder (w.params.setOrder a ep) es)[i]?).map fun e=>(e.2,slot)) s):wpAny (model prog w) A (setNext a slot i ep) Q E s:=by
 unfold setNext;refine zCt (wpAny_setState_of ho hd hf ?_)
 dsimp only
 refine zCt (Oo ?_);rw[bt,if_pos rfl,if_neg (by simp)];refine zCt ?_;unfold setWalk;refine zCt (wpAny_setState_of ho hd hf ?_)
 dsimp only
 refine zCt (Oo ?_);rw[bt,if_pos rfl];exact zCt (wpAny_askSetting (zCu (zCu h)))
theorem Qs {slot i:Nat} {Q:Option (Value×Nat)->Shared->Prop} (bt:w.params.followText "set-order" = false) (ho:s.heap.get? a=some o) (hd:o.data = .set es ep t) (hf:t.fits es.size=true) (hl:t.led=true) (hp:(!t.plain&&decide (es.size>1))=false)
  (h:Q (match es[SetTable.below t.place slot]?,t.place[SetTable.below t.place slot]? with
   | some (_,x),some j=>some (x,j+1)
   | _,_=>none) s):wpAny (model prog w) A (setNext a slot i ep) Q E s:=by
 unfold setNext;refine zCt (wpAny_setState_of ho hd hf ?_)
 dsimp only
 refine zCt (Oo ?_);rw[bt,if_neg zAr];show wpAny _ _ (if (!t.plain&&decide (es.size>1))=true then _ else _) _ _ _;rw[hp,if_neg zAr];refine zCt ?_;show wpAny _ _ (if (!t.led && !es.isEmpty)=true then unsupported "set:maker-not-led" else pure ()) _ _ _;rw[hl,if_neg (by simp)];exact zCu (zCu h)
theorem Zj {place:Nat} {k:Int} {x:Value} {Q:Value->Shared->Prop} (ho:s.heap.get? a=some o) (hd:o.data = .set es ep t) (hf:t.fits es.size=true) (hx:es[place]?=some (k,x)) (h:Q x s):wpAny (model prog w) A (setNextDrawn a place ep) Q E s:=by
 unfold setNextDrawn;refine zCt (wpAny_setState_of ho hd hf ?_)
 dsimp only
 rw[if_neg (by simp),hx];exact zCu h
theorem Zx {src:Source} {n:Nat} {Q:Nat->Shared->Prop} (hn:n≠0) (h:∀ i,i<n->Q i { s with drawn:=s.drawn.bump src }):wpAny (model prog w) A (choose src n) Q E s:=fun _ _ _=>by
 unfold choose;rw[Sem.wp_choose];exact⟨hn,h _ (Nat.mod_lt _ (by lia))⟩
theorem Qh {α:Type}:∀ (n:Nat) (xs:List α) (s:Shared) (Q:List α->Shared->Prop),xs.length=n->(∀ ys d,ys.Perm xs->Q ys { s with drawn:=d })->wpAny (model prog w) A (drawOrder n xs) Q E s
 | 0,xs,s,Q,hl,h=>by
  have e:xs=[]:=zCi.mp hl;subst e;unfold drawOrder;exact zCu (h [] s.drawn (List.Perm.refl _))
 | n+1,xs,s,Q,hl,h=>by
  cases xs with
  | nil=>simp at hl
  | cons x xs=>
   unfold drawOrder;refine zCt (Zx (by simp) fun i hi=>?_);rw[zAn hi]
   dsimp only
   refine zCt (Qh n _ _ _ (by rw[List.length_eraseIdx,if_pos hi]; lia) fun ys d p=>zCu ?_);exact h _ d ((p.cons _).trans (Ke hi))
end
section
variable {prog:Program} {w:World} {A:Around} {E:Value->Shared->Prop} {s:Shared} {I a T:Addr} {i n ep slot:Nat} {o:Obj} {es:Array (Int×Value)} {t:SetTable} {Q:Option Value->Shared->Prop}
theorem T7 {places:Array Value} {cn:Nat} {pl:Nat} {tk:Tok} {k:Int} {x:Value} (hit:Zc s.heap I (.ref T) i a n ep) (hT:s.heap.get? T=some { cls:=.type "tuple",dict:=none,data:=.seq places cn,slots := #[] }) (ho:s.heap.get? a=some o) (hd:o.data = .set es ep t) (hf:t.fits es.size=true) (hn:es.size=n)
  (hp:places[i]?=some (.int (pl:Int) tk)) (hx:es[pl]?=some (k,x))
  (h:∀ h',Zc h' I (.ref T) (i+1) a n ep->zBc I s.heap h'->Q (some x) { s with heap:=h' }):wpAny (model prog w) A (pyNext (.ref I)) Q E s:=by
 have ty:s.TypeIs (.ref I) "set_iterator" := ⟨_,hit,rfl⟩;unfold pyNext;refine zCt (wpAny_attempt (wpAny_callSpecial?_slot (name:=Str.ofString "__next__") ty slot_sin (wpAny_call_entry slot_sin ty Ji ?_ (Lk _))));unfold Builtin.«set_iterator.__next__»;refine zCt (m:=slotArgs "__next__" 0 _) (zCu (zCt (wpAny_fieldsOf hit rfl ?_)))
 dsimp only [rawInt]
 refine zCt (wpAny_setEntries_of ho hd hf ?_);rw[hn,if_neg (by simp)];refine zCt (wpAny_seqItems hT rfl ?_)
 dsimp only
 rw[show ((i:Int)).toNat=i from rfl,hp]
 dsimp only
 refine zCt (Zj ho hd hf (place:=pl) hx ?_);refine zCt (wpAny_setField_rec hit (by simp) fun h1 e1 sb1=>?_);refine zCu ⟨_,rfl,zCu (h h1 ?_ sb1)⟩;unfold Zc;rw[e1];simp [rawInt]
theorem Pc {α:Type} {Q:α->Shared->Prop} (hh:A.handled=none) (h:∀ h' e,(∀ b o,s.heap.get? b=some o->h'.get? b=some o)->Shared.TypeIs { s with heap:=h' } e "StopIteration" -> E e { s with heap:=h' }):wpAny (model prog w) A (newExc (.type "StopIteration") [] >>= raiseNew) Q E s:=by
 refine zCt ?_;simp only [newExc,newTuple];refine zCt (wpAny_newObj_type ?_ (by size_fits));refine zCt (m:=firstArgMember _ _) (wpAny_of_eq (a:=Value.none) (by first | rfl | (simp only [firstArgMember]; rfl)) ?_);refine wpAny_newObj_type ?_ (by size_fits);refine wpAny_raiseNew_none hh (h _ _ (fun b ob e=>zAc _ (zAc _ e)) ⟨_,zAt _ rfl,rfl⟩)
theorem C3 (hh:A.handled=none) (hit:Zc s.heap I (rawInt slot) i a n ep) (ho:s.heap.get? a=some o) (hd:o.data = .set es ep t) (hf:t.fits es.size=true) (hn:es.size=n)
  (hx:∀ (A':Around) (Q':Option (Value×Nat)->Shared->Prop) (E':Value->Shared->Prop),Q' none s->wpAny (model prog w) A' (setNext a slot i ep) Q' E' s)
  (h:∀ h',Heap.ExtBut I s.heap h'->Q none { s with heap:=h' }):wpAny (model prog w) A (pyNext (.ref I)) Q E s:=by
 have ty:s.TypeIs (.ref I) "set_iterator" := ⟨_,hit,rfl⟩;unfold pyNext;refine zCt (wpAny_attempt (wpAny_callSpecial?_slot (name:=Str.ofString "__next__") ty slot_sin (wpAny_call_entry slot_sin ty Ji ?_ (Lk _))));unfold Builtin.«set_iterator.__next__»;refine zCt (m:=slotArgs "__next__" 0 _) (zCu (zCt (wpAny_fieldsOf hit rfl ?_)))
 dsimp only [rawInt]
 refine zCt (wpAny_setEntries_of ho hd hf ?_);rw[hn,if_neg (by simp)];refine zCt (hx _ _ _ ?_)
 dsimp only
 refine zCt (wpAny_setField_rec hit (by simp) fun h1 e1 sb1=>?_);refine Pc (s:={ s with heap:=h1 }) (by exact hh) fun h2 e k2 te=>?_
 dsimp only
 refine zCt (wpAny_isInstance (T := "StopIteration") (b:=true) te isSubtype_stop ?_);exact zCu (h h2 (fun b ob nb e'=>k2 b ob ((sb1.2 b nb).trans e')))
theorem AE {places:Array Value} {cn:Nat} (hh:A.handled=none) (hit:Zc s.heap I (.ref T) i a n ep) (hT:s.heap.get? T=some { cls:=.type "tuple",dict:=none,data:=.seq places cn,slots := #[] }) (ho:s.heap.get? a=some o) (hd:o.data = .set es ep t) (hf:t.fits es.size=true) (hn:es.size=n) (hp:places[i]?=none)
  (h:∀ h',Heap.ExtBut I s.heap h'->Q none { s with heap:=h' }):wpAny (model prog w) A (pyNext (.ref I)) Q E s:=by
 have ty:s.TypeIs (.ref I) "set_iterator" := ⟨_,hit,rfl⟩;unfold pyNext;refine zCt (wpAny_attempt (wpAny_callSpecial?_slot (name:=Str.ofString "__next__") ty slot_sin (wpAny_call_entry slot_sin ty Ji ?_ (Lk _))));unfold Builtin.«set_iterator.__next__»;refine zCt (m:=slotArgs "__next__" 0 _) (zCu (zCt (wpAny_fieldsOf hit rfl ?_)))
 dsimp only [rawInt]
 refine zCt (wpAny_setEntries_of ho hd hf ?_);rw[hn,if_neg (by simp)];refine zCt (wpAny_seqItems hT rfl ?_)
 dsimp only
 rw[show ((i:Int)).toNat=i from rfl,hp]
 dsimp only
 refine zCt (wpAny_setField_rec hit (by simp) fun h1 e1 sb1=>?_);refine zCt (wpAny_setField_rec e1 (by simp) fun h2 e2 sb2=>?_);refine Pc (s:={ s with heap:=h2 }) (by exact hh) fun h3 e k3 te=>?_
 dsimp only
 refine zCt (wpAny_isInstance (T := "StopIteration") (b:=true) te isSubtype_stop ?_);exact zCu (h h3 (fun b ob nb e'=>k3 b ob ((sb2.2 b nb).trans ((sb1.2 b nb).trans e'))))
theorem Tr {first:Value} {Q:Value->Shared->Prop} (hit:Zc s.heap I first i a n ep) (h:Q (.ref I) s):wpAny (model prog w) A (pyIter (.ref I)) Q E s:=by
 have ty:s.TypeIs (.ref I) "set_iterator" := ⟨_,hit,rfl⟩;refine wpAny_pyIter_slot ty Wm (wpAny_call_entry Wm ty M2 ?_ (X8 _));unfold Builtin.«dict_keyiterator.__iter__»;exact zCt (m:=slotArgs "__iter__" 0 _) (zCu (zCu ⟨_,rfl, "set_iterator",_,ty,slot_sin.lookup,h⟩))
theorem Vo:Slot "set" "__iter__" "set.__iter__" :=
 .of (owner := "set") (n := "__iter__") (by rw[typeLookup_type,builtinLookup_eq_fast]; kernel_rfl) (by ac_nf) (by ac_nf) (by ac_nf) (by first | exact .inl (by ac_nf) | exact .inr (by ac_nf)) (by rw[isSubtype_type]; kernel_rfl)
theorem S0 (a:Value):argsOk "set.__iter__" ⟨[a],[]⟩:=by unfold argsOk; kernel_rfl
def HJ (w:World) (h0 h:Heap) (I a:Addr) (es:Array (Int×Value)) (ep:Nat) (t:SetTable):Prop:=
 (Zc h I (rawInt 0) 0 a es.size ep/\(w.params.followText "set-order" = true\/(w.params.followText "set-order" = false/\(!t.plain&&decide (es.size>1))=false))) \/
 ∃ T ps,Zc h I (.ref T) 0 a es.size ep/\h.get? T=some { cls:=.type "tuple",dict:=none,data:=.seq ((ps:List Nat).map fun i:Nat=>rawInt i).toArray 0,slots := #[] }/\ps.Perm (zAN es.size)/\T≠I/\h0.get? T=none
theorem T6 {Q:Value->Shared->Prop} (hc:o.cls = .type "set") (ho:s.heap.get? a=some o) (hd:o.data = .set es ep t) (hf:t.fits es.size=true) (hz:es.size<=sizeLine)
  (h:∀ h' d I,HJ w s.heap h' I a es ep t->(∀ b ob,s.heap.get? b=some ob->h'.get? b=some ob)->s.heap.get? I=none->Q (.ref I) { s with heap:=h',drawn:=d }):wpAny (model prog w) A (pyIter (.ref a)) Q E s:=by
 have ty:s.TypeIs (.ref a) "set" := ⟨_,ho,hc⟩;refine wpAny_pyIter_slot ty Vo (wpAny_call_entry Vo ty X4 ?_ (S0 _));unfold Builtin.«frozenset.__iter__»;refine zCt (m:=Builtin.Frozenset.slot0 "__iter__" _) (zCu ?_);refine zCt (zCt (wpAny_setEntries_of ho hd hf (zCu ?_)));refine zCt ?_;unfold setDrawn;refine zCt (wpAny_setState_of ho hd hf ?_)
 dsimp only
 refine zCt (Oo (zCu ?_));show wpAny _ _ (if (!(w.params.followText "set-order")&&(!t.plain&&decide (es.size>1)))=true then _ else _) _ _ _;have last:∀ (first:Value) (h1:Heap) (d1:Drawn),(∀ b ob,s.heap.get? b=some ob->h1.get? b=some ob)->s.heap.objs.size<=h1.objs.size->(∀ h2,(∀ b ob,h1.get? b=some ob->h2.get? b=some ob)->Zc h2 h1.objs.size first 0 a es.size ep->HJ w s.heap h2 h1.objs.size a es ep t) ->
   wpAny (model prog w) A.in1 (do
    let x <- setEpoch a
    let y <- newFields "set_iterator" [first,rawInt 0,Value.ref a,rawInt ↑es.size,rawInt ↑x]
    ret y) (fun fin s'=>∃ v,fin = .done (.ret v)/\∃ T' r,s'.TypeIs v T'/\typeLookup (Value.type T') (Str.ofString "__next__")=pure (some r)/\Q v s') E { s with heap:=h1,drawn:=d1 }:=fun first h1 d1 k1 le bg=>by
  refine zCt ?_;unfold setEpoch;refine zCt (wpAny_setState_of (s:={ s with heap:=h1,drawn:=d1 }) (k1 _ _ ho) hd hf (zCu ?_));refine zCt (wpAny_newObj_type (zCu ⟨_,rfl, "set_iterator",_,⟨_,zAt _ rfl,rfl⟩,slot_sin.lookup,?_⟩));refine h _ d1 h1.objs.size (bg _ (fun b ob e=>zAc _ e) (zAt _ rfl)) (fun b ob e=>zAc _ (k1 b ob e)) ?_;cases z:s.heap.get? h1.objs.size with
  | none=>rfl
  | some ob=>
   have:=zAh z;exact absurd le (Nat.not_le.mpr this)
 by_cases c:(!(w.params.followText "set-order")&&(!t.plain&&decide (es.size>1)))=true
 ·rw[if_pos c]
  refine zCt (Qh _ _ _ _ zAY fun ps d p=>?_);refine zCt (wpAny_newTuple ?_ (by rw[zAb,p.length_eq,zAY]; exact hz));refine last _ _ d (fun b ob e=>zAc _ e) (by rw[zBm]; exact zBh _) fun h2 k2 it=>.inr ⟨s.heap.objs.size,ps,it,k2 _ _ (zAt _ rfl),p,?_,?_⟩
  ·show s.heap.objs.size≠(s.heap.push _).objs.size
   rw[zBm];exact zAm (zBs _)
  ·cases z:s.heap.get? s.heap.objs.size with
   | none=>rfl
   | some ob=>exact absurd (zAh z) (zBk _)
 ·rw[if_neg c]
  refine zCt (zCu ?_);have e:s={ s with heap:=s.heap,drawn:=s.drawn }:=by cases s; rfl
  rw[e];refine last _ s.heap s.drawn (fun _ _ z=>z) (zAf _) fun h2 k2 it=>.inl ⟨it,?_⟩;cases b:w.params.followText "set-order" with
  | true=>exact .inl rfl
  | false=>
   rw[b] at c;exact .inr ⟨rfl,by simpa using c⟩
end
section
variable {prog:Program} {w:World} {A:Around} {E:Value->Shared->Prop} {I a:Addr} {es:Array (Int×Value)} {ep:Nat} {t:SetTable}
def B8 (h:Heap) (a:Addr) (es:Array (Int×Value)) (ep:Nat) (t:SetTable):Prop:=∃ o,h.get? a=some o/\o.data = .set es ep t
theorem Pg (hf:t.fits es.size=true):t.place.size=es.size:=by
 unfold SetTable.fits at hf;simp at hf;exact hf.1
theorem Zd (es:Array (Int×Value)):(zAN es.size).map (fun p=>(es.getD p (0,.none)).2)=es.toList.map (·.2):=by
 refine List.ext_getElem? fun i=>?_;rw[zAu,zAu];by_cases h:i<es.size
 ·rw[List.getElem?_range h,zBi,zAH h]
  simp [zCh,h]
 ·rw[zBE (by simpa using h),zBi,zBr (by lia)]
  rfl
theorem Kc {s:Shared} {h':Heap} (sb:zBc I s.heap h'):Moved [I] (fun x y:Array GenState=>y=x) s { s with heap:=h' }:=⟨fun b o nb e=>(sb.2 b (fun z=>nb (by rw[z]; exact zAg.mpr rfl))).trans e,rfl,rfl,rfl,zAf _⟩
theorem Mt {s:Shared} {h':Heap} (sb:Heap.ExtBut I s.heap h'):Moved [I] (fun x y:Array GenState=>y=x) s { s with heap:=h' }:=⟨fun b o nb e=>sb b o (fun z=>nb (by rw[z]; exact zAg.mpr rfl)) e,rfl,rfl,rfl,zAf _⟩
theorem Yv (hh:A.handled=none) (bt:w.params.followText "set-order" = true) (hf:t.fits es.size=true) (na:a≠I) :
  WalksS prog w A I [I,a] [I] (fun x y=>y=x) es.size (fun i v=>(((pickOrder (w.params.setOrder a ep) es).toList.map (·.2))[i]?)=some v) (fun i s=>Zc s.heap I (rawInt 0) i a es.size ep/\B8 s.heap a es ep t) where
 sub:=fun b hb=>by rw[zAg.mp hb]; exact zAo
 grefl:=fun _=>rfl
 gtrans:=fun _ _ _ h1 h2=>h2.trans h1
 frame:=fun i s h' tk ⟨it,o,ho,hd⟩ _ k=>⟨k I zAo _ it,o,k a (by simp) _ ho,hd⟩
 item:=fun i s Q E hi ⟨it,o,ho,hd⟩ h=>by
  have sz:(pickOrder (w.params.setOrder a ep) es).size=es.size:=by rw[<- zAw,(Mv _ es).length_eq,zAw]
  have ei:(pickOrder (w.params.setOrder a ep) es)[i]?=some ((pickOrder (w.params.setOrder a ep) es)[i]'(by lia)):=zAH (by lia);refine Yl (slot:=0) (nx:=0) it ho hd hf rfl (fun A' Q' E' q=>Ta bt ho hd hf (by rw[ei]; exact q)) fun h' it' sb=>?_;refine h _ _ ?_ ⟨it',o,(sb.2 a na).trans ho,hd⟩ (Kc sb);rw[zAu,zBi,ei];rfl
 done:=fun s Q E ⟨it,o,ho,hd⟩ h=>by
  have sz:(pickOrder (w.params.setOrder a ep) es).size=es.size:=by rw[<- zAw,(Mv _ es).length_eq,zAw]
  refine C3 (slot:=0) hh it ho hd hf rfl (fun A' Q' E' q=>Ta bt ho hd hf (by rw[zBr (by lia)]; exact q)) fun h' sb=>h _ (Mt sb)
 self:=fun i s Q E ⟨it,_⟩ h=>Tr it h
theorem Wc (hh:A.handled=none) (bt:w.params.followText "set-order" = false) (hf:t.fits es.size=true) (hl:t.led=true) (rs:Rs t.place) (hp:(!t.plain&&decide (es.size>1))=false) (na:a≠I) :
  WalksS prog w A I [I,a] [I] (fun x y=>y=x) es.size (fun i v=>((es.toList.map (·.2))[i]?)=some v) (fun i s=>Zc s.heap I (rawInt (Hj t.place i)) i a es.size ep/\B8 s.heap a es ep t) where
 sub:=fun b hb=>by rw[zAg.mp hb]; exact zAo
 grefl:=fun _=>rfl
 gtrans:=fun _ _ _ h1 h2=>h2.trans h1
 frame:=fun i s h' tk ⟨it,o,ho,hd⟩ _ k=>⟨k I zAo _ it,o,k a (by simp) _ ho,hd⟩
 item:=fun i s Q E hi ⟨it,o,ho,hd⟩ h=>by
  have sz:=Pg hf;have bl:=Qo rs (i:=i) (by lia);have ei:es[i]?=some (es[i]'hi):=zAH hi;have pi:t.place[i]?=some (t.place[i]'(by lia)):=zAH (by lia);have en:Hj t.place (i+1)=t.place[i]'(by lia)+1:=by
   unfold Hj;rw[if_neg (by lia),Nat.add_sub_cancel];simp [zCh,show i<t.place.size by lia]
  refine Yl (slot:=Hj t.place i) (nx:=Hj t.place (i+1)) it ho hd hf rfl (fun A' Q' E' q=>Qs bt ho hd hf hl hp (by rw[bl,ei,pi]; dsimp only; rw[<- en]; exact q)) fun h' it' sb=>?_;refine h _ _ ?_ ⟨it',o,(sb.2 a na).trans ho,hd⟩ (Kc sb);rw[zAu,zBi,ei];rfl
 done:=fun s Q E ⟨it,o,ho,hd⟩ h=>by
  have sz:=Pg hf;have bl:=Qo rs (i:=es.size) (by lia);refine C3 (slot:=Hj t.place es.size) hh it ho hd hf rfl (fun A' Q' E' q=>Qs bt ho hd hf hl hp (by rw[bl,zBr (zAf _)]; exact q)) fun h' sb=>h _ (Mt sb)
 self:=fun i s Q E ⟨it,_⟩ h=>Tr it h
theorem Xl {T:Addr} {ps:List Nat} (hh:A.handled=none) (hf:t.fits es.size=true) (pm:ps.Perm (zAN es.size)) (na:a≠I) (nT:T≠I) :
  WalksS prog w A I [I,a,T] [I] (fun x y=>y=x) es.size (fun i v=>((ps.map fun p=>(es.getD p (0,.none)).2)[i]?)=some v)
   (fun i s=>Zc s.heap I (.ref T) i a es.size ep/\B8 s.heap a es ep t/\s.heap.get? T=some { cls:=.type "tuple",dict:=none,data:=.seq (ps.map fun i:Nat=>rawInt i).toArray 0,slots := #[] }) where
 sub:=fun b hb=>by rw[zAg.mp hb]; exact zAo
 grefl:=fun _=>rfl
 gtrans:=fun _ _ _ h1 h2=>h2.trans h1
 frame:=fun i s h' tk ⟨it,⟨o,ho,hd⟩,hT⟩ _ k=>⟨k I zAo _ it,⟨o,k a (by simp) _ ho,hd⟩,k T (by simp) _ hT⟩
 item:=fun i s Q E hi ⟨it,⟨o,ho,hd⟩,hT⟩ h=>by
  have ln:ps.length=es.size:=by rw[pm.length_eq,zAY]
  have ei:ps[i]?=some (ps[i]'(by lia)):=zAn (by lia);have pl:ps[i]'(by lia)<es.size:=zAS.mp (pm.mem_iff.mp (zBj _));have ex:es[ps[i]'(by lia)]?=some (es[ps[i]'(by lia)]'pl):=zAH pl;refine T7 (pl:=ps[i]'(by lia)) (k:=(es[ps[i]'(by lia)]'pl).1) (x:=(es[ps[i]'(by lia)]'pl).2) it hT ho hd hf rfl (tk:=0) ?_ ex fun h' it' sb=>?_
  ·rw[zBF,zAu,ei]
   rfl
  ·refine h _ _ ?_ ⟨it',⟨o,(sb.2 a na).trans ho,hd⟩,(sb.2 T nT).trans hT⟩ (Kc sb)
   rw[zAu,ei];simp [zCh,pl]
 done:=fun s Q E ⟨it,⟨o,ho,hd⟩,hT⟩ h=>by
  have ln:ps.length=es.size:=by rw[pm.length_eq,zAY]
  refine AE hh it hT ho hd hf rfl ?_ fun h' sb=>h _ (Mt sb);rw[zBF,zAu,zBE (by lia)];rfl
 self:=fun i s Q E ⟨it,_⟩ h=>Tr it h
theorem N9 (hh:A.handled=none) {h0 h:Heap} (hs:B8 h a es ep t) (hf:t.fits es.size=true) (g:Jp (w.params.followText "set-order") t) (na:a≠I) (nI:h0.get? I=none) (b:HJ w h0 h I a es ep t) :
  ∃ (os:List Value) (fp:List Addr) (St:Nat->Shared->Prop),os.Perm (es.toList.map (·.2))/\WalksS prog w A I fp [I] (fun x y=>y=x) es.size (fun i v=>os[i]?=some v) St/\(∀ s:Shared,s.heap=h->St 0 s)/\∀ x∈fp,x=a\/h0.get? x=none:=by
 rcases b with ⟨it,bt | ⟨bt,hp⟩⟩ | ⟨T,ps,it,hT,pm,nT,nT0⟩
 ·refine⟨_,_,_,(Mv (w.params.setOrder a ep) es).map _,Yv hh bt hf na,fun s e=>by rw[e]; exact⟨it,hs⟩,fun x hx=>?_⟩
  rcases zAp.mp hx with z | z
  ·rw[z]; exact .inr nI
  ·exact .inl (zAg.mp z)
 ·refine⟨_,_,_,List.Perm.refl _,Wc hh bt hf (g.ld bt) g.rs hp na,fun s e=>by rw[e]; exact⟨it,hs⟩,fun x hx=>?_⟩
  rcases zAp.mp hx with z | z
  ·rw[z]; exact .inr nI
  ·exact .inl (zAg.mp z)
 ·refine⟨_,_,_,(pm.map _).trans (List.Perm.of_eq (Zd es)),Xl hh hf pm na nT,fun s e=>by rw[e]; exact⟨it,hs,hT⟩,fun x hx=>?_⟩
  rcases zAp.mp hx with z | z
  ·rw[z]; exact .inr nI
  ·rcases zAp.mp z with z | z
   ·exact .inl z
   ·rw[zAg.mp z]; exact .inr nT0
end
section
variable {prog:Program} {w:World} {A:Around} {E:Value->Shared->Prop} {s:Shared} {a:Addr} {o:Obj} {es:Array (Int×Value)} {ep:Nat} {t:SetTable}
theorem BJ:typeLookup (.type "set") (Str.ofString "__len__")=pure (some (.builtin "set.__len__")):=F.slot_set_len.lookup
theorem CV:isSubtype (.type "set") (.type "set")=pure true:=by rw[isSubtype_type]; kernel_rfl
theorem S8 {Q:Bool->Shared->Prop} (ty:s.TypeIs (.ref a) "set") (h:Q false s):wpAny (model prog w) A (Builtin.List.listLengthHint (.ref a)) Q E s:=by
 unfold Builtin.List.listLengthHint;refine zCt (wpAny_specialOf ty BJ ?_);generalize hid:("set.__len__" : String)=id0
 wp_delta
 rw[show splitId id0=some ("set", "__len__") from by subst hid; decide +kernel];subst hid;refine zCt (wpAny_isInstance ty CV ?_);show wpAny _ A (typeOf (Value.ref a) >>= _) _ _ _;refine zCt (wpAny_typeOf ty ?_);exact zCu h
theorem Nk {Q:List Value->Shared->Prop} (hh:A.handled=none) (hc:o.cls = .type "set") (ho:s.heap.get? a=some o) (hd:o.data = .set es ep t) (hf:t.fits es.size=true) (g:Jp (w.params.followText "set-order") t) (hz:es.size<=sizeLine)
  (h:∀ s' vs,vs.Perm (es.toList.map (·.2))->(∀ b ob,s.heap.get? b=some ob->s'.heap.get? b=some ob)->s'.gens=s.gens->s'.os=s.os->Q vs s'):wpAny (model prog w) A (collect (.ref a)) Q E s:=by
 unfold collect;refine zCt (wpAny_runValue (codeAny_builtin F.entry_proto_collect ?_));rw[Around.under_plainId F.plain_proto_collect _];show wpAny _ A.in1 (newList [] >>= fun l=>again (.builtin "list.__iadd__" ⟨[l,.ref a],[]⟩)) _ _ s;refine zCt (wpAny_newObj_type (zCu ⟨plainId_quiet F.plain_list_iadd _,codeAny_builtin F.entry_list_iadd ?_⟩));rw[Around.under_plainId F.plain_list_iadd _];have lt:a<s.heap.objs.size:=zAh ho;have old:∀ b ob,s.heap.get? b=some ob->(s.heap.push { cls:=.type "list",data:=.seq ([]:List Value).toArray }).get? b=some ob:=fun b ob e=>zAc _ e;have at0:(s.heap.push { cls:=.type "list",data:=.seq ([]:List Value).toArray }).get? s.heap.objs.size=some { cls:=.type "list",data:=.seq ([]:List Value).toArray }:=zAt _ rfl;generalize hL:s.heap.objs.size=L at at0;generalize s.heap.push { cls:=.type "list",data:=.seq ([]:List Value).toArray }=H at old at0;have nL:s.heap.get? L=none:=by
  cases z:s.heap.get? L with
  | none=>rfl
  | some ob=>exact absurd (zAh z) (by rw[hL]; exact zBk _)
 show wpAny _ A.in1 (Builtin.List.listExtendWith (.ref L) (.ref a) (.ref L)) _ _ { s with heap:=H };unfold Builtin.List.listExtendWith;have ty:Shared.TypeIs { s with heap:=H } (.ref a) "set" := ⟨_,old _ _ ho,hc⟩;refine zCt (wpAny_typeOf ty ?_);have c1:Builtin.List.listSameRef (.ref L) (.ref a)=false:=by
  have:L≠a:=by rw[<- hL]; exact zAF lt
  simp [Builtin.List.listSameRef,this]
 rw[if_neg (by rw[c1]; decide)];refine zCt (T6 (s:={ s with heap:=H }) hc (old _ _ ho) hd hf hz fun h1 d I bg k1 nI=>?_);have ty1:Shared.TypeIs { s with heap:=h1,drawn:=d } (.ref a) "set" := ⟨_,k1 _ _ (old _ _ ho),hc⟩;refine zCt (wpAny_holding (S8 ty1 ?_));show wpAny _ A.in1 (rule "list.extend.makes-room" >>= fun _=>Builtin.List.listTouch (.ref L) >>= fun _=>again (.builtin "list.extend.loop" ⟨[.ref L,.ref I,.ref L],[]⟩)) _ _ _;refine zCt (wpAny_rule (zCt ?_));show wpAny _ A.in1 (updateSeq L (·.push .none) >>= fun _=>updateSeq L (·.pop)) _ _ _;have at1:=k1 _ _ at0;refine zCt (wpAny_updateSeq (s:={ s with heap:=h1,drawn:=d }) at1 rfl ?_);have at2:=zAX (Obj.mapSeq (·.push Value.none)) at1 rfl;refine wpAny_updateSeq at2 rfl ?_;have at3:=zAX (Obj.mapSeq (·.pop)) at2 rfl;have oth:∀ b ob,b≠L->h1.get? b=some ob->((h1.update L (Obj.mapSeq (·.push Value.none))).update L (Obj.mapSeq (·.pop))).get? b=some ob:=fun b ob nb e=>
  (zAM _ _ (Ne.symm nb)).trans ((zAM _ _ (Ne.symm nb)).trans e)
 have naI:a≠I:=fun z=>by
  rw[<- z] at nI;have:=old _ _ ho;have nI':H.get? a=none:=nI;rw[this] at nI';cases nI'
 have nLI:L≠I:=fun z=>by
  rw[<- z] at nI;have nI':H.get? L=none:=nI;rw[at0] at nI';cases nI'
 obtain⟨vs,fp,St,pm,W,st0,inf⟩:=N9 (prog:=prog) (A:=A.in1.in1) (by exact hh) (h:=h1) ⟨o,k1 _ _ (old _ _ ho),hd⟩ hf g naI nI bg;have nf:L∉fp:=fun z=>by
  rcases inf L z with e | e
  ·exact absurd e (by rw[<- hL]; exact zAF lt)
  ·have e':H.get? L=none:=e
   rw[at0] at e';cases e'
 have st1:=W.frame 0 { s with heap:=h1,drawn:=d } _ s.toks (st0 _ rfl) (zAf _) fun b hb ob e=>oth b ob (fun z=>nf (z▸hb)) e;refine zCu ⟨plainId_quiet F.plain_extend_loop _,codeAny_extend_loopS W.of_in1 hz L nf _ es.size 0 _ _ _ rfl (zAk _) st1 at3 (ItemsOf.nil _) fun s' acc c' hm hS' hacc=>?_⟩;show wpAny _ A (load L >>= _) _ _ s';refine zCt (wpAny_load hS' (zCu ?_));have ea:acc.toList=vs:=by
  obtain⟨z1,z2⟩:=hacc;have lv:vs.length=es.size:=by rw[pm.length_eq,zAb,zAw]
  refine List.ext_getElem? fun j=>?_;rw[zBi];by_cases hj:j<acc.size
  ·rw[zAH hj]
   exact (z2 j _ (zAH hj)).symm
  ·rw[zBr (by omega),zBE (by omega)]
 rw[ea];refine h s' vs pm (fun b ob e=>hm.heap b ob (fun z=>?_) (oth b ob (fun z=>?_) (k1 b ob (old b ob e)))) hm.gens hm.os
 ·rcases zAp.mp z with z | z
  ·rw[z,nL] at e
   cases e
  ·rw[zAg.mp z] at e
   have e':=old _ _ e;have nI':H.get? I=none:=nI;rw[e'] at nI';cases nI'
 ·rw[z,nL] at e
  cases e
end
section
variable {prog:Program} {w:World} {A:Around} {E:Value->Shared->Prop} {s:Shared}
theorem C7 {x:Value} {Q:Value->Shared->Prop} (h:Q (.ref s.heap.objs.size) { s with heap:=s.heap.push { cls:=.type "set",dict:=none,data:=.set #[] 0 (.fresh 0 0 (!w.params.followText "set-order")) } }) :
  codeAny (model prog w) A (.call (.builtin "set.__new__") ⟨[.type "set",x],[]⟩) (wants Q E) s:=by
 refine codeAny_of_tree ?_;show wpAny _ A.in1 (do checkBuiltinCall "set.__new__" ⟨[.type "set",x],[]⟩; again (.builtin "set.__new__" ⟨[.type "set",x],[]⟩)) _ _ s;refine zCt (wpAny_of_eq (F.newCall_set_1 x) (zCu ⟨plainId_quiet F.plain_set_new _,codeAny_builtin F.entry_set_new ?_⟩));rw[Around.under_plainId F.plain_set_new _];unfold Builtin.«set.__new__» Builtin.Frozenset.newClass;have hsub:=sub_set_self;obtain⟨hp,gn,d,tk,os⟩:=s
 dsimp only
 wp_walk
 refine wpAny_askSetting (zCu ?_)
 dsimp only
 simp only [newObj];exact zCt (wpAny_alloc (zCu (zCu h)))
variable {R:Result->Shared->Prop} {I:Addr} {fp wr:List Addr} {G:Array GenState->Array GenState->Prop} {n:Nat} {P:Nat->Value->Prop} {St:Nat->Shared->Prop}
theorem GSet.keep {h h':Heap} {a:Addr} {ks:List Int} (g:GSet (intKind prog w) h a ks) (k:∀ o,h.get? a=some o->h'.get? a=some o):GSet (intKind prog w) h' a ks:=by
 obtain⟨o,es,ep,t,ho,r⟩:=g;exact⟨o,es,ep,t,k o ho,r⟩
theorem Wh (W:WalksS prog w A.in1 I fp wr G n P St) (S:Addr) (nS:S∉fp) (val:Nat->Int) (hv:∀ i v,P i v->∃ t,v = .int (val i) t) (hb:n+1<scanBound) :
  ∀ (k i:Nat) (s:Shared) (ks:List Int),n-i=k->i<=n->St i s->GSet (intKind prog w) s.heap S ks->(∀ y,y∈ks↔∃ j,j<i/\val j=y)->ks.length<=i ->
   (∀ s' ks',Moved (S::wr) G s s'->GSet (intKind prog w) s'.heap S ks'->(∀ y,y∈ks'↔∃ j,j<n/\val j=y)->ks'.length<=n->R (.ok (.ret .none)) s') ->
   codeAny (model prog w) A (.builtin "set.update.loop" ⟨[.ref S,.ref I],[]⟩) R s:=by
 have nw:S∉wr:=fun z=>nS (W.sub _ z);have sub:∀ b∈wr,b∈S::wr:=fun b hb=>zAs _ hb;intro k
 induction k with
 | zero=>
  intro i s ks hk hi st g mem len fin;have e:i=n:=by lia
  subst e;refine codeAny_builtin PyProof.Rows.F.entry_set_update_loop ?_;rw[Around.under_plainId PyProof.Rows.F.plain_set_update_loop _];show wpAny _ A.in1 (pyNext (.ref I) >>= _) _ _ s;refine zCt (W.done s _ _ st fun s' hm=>?_);show wpAny _ A.in1 (ret Value.none) _ _ s';exact zCu (fin s' ks (hm.mono sub) (g.keep fun o e=>hm.heap S o nw e) mem len)
 | succ k ih=>
  intro i s ks hk hi st g mem len fin;refine codeAny_builtin PyProof.Rows.F.entry_set_update_loop ?_;rw[Around.under_plainId PyProof.Rows.F.plain_set_update_loop _];show wpAny _ A.in1 (pyNext (.ref I) >>= _) _ _ s;refine zCt (W.item i s _ _ (by lia) st fun v s' hP st' hm=>?_);obtain⟨tk,rfl⟩:=hv i v hP;have g':=g.keep fun o e=>hm.heap S o nw e;show wpAny _ A.in1 (holding [Value.int (val i) tk] (setAdd S (.int (val i) tk)) >>= _) _ _ s';refine zCt (wpAny_holding ?_);unfold setAdd;refine wpAny_holding (zCt ((intKind prog w).pyHash (k:=val i) (intKind_is _ _ _ _) ?_));refine CJ (knd:=intKind prog w) (s:={ s' with toks:=s'.toks+1 }) (intKind_is _ _ _ _) rfl g' (by lia) fun b h' ks' sb g2 pm=>?_;have len':ks'.length<=i+1:=by
   rw[pm.length_eq]
   split
   ·lia
   ·rw[zAi,List.length_singleton]; lia
  have mem':∀ y,y∈ks'↔∃ j,j<i+1/\val j=y:=fun y=>by
   rw[pm.mem_iff];constructor
   ·intro hy
    split at hy
    ·obtain⟨j,h1,h2⟩:=(mem y).mp hy
     exact⟨j,by lia,h2⟩
    ·rcases zAy.mp hy with z | z
     ·obtain⟨j,h1,h2⟩:=(mem y).mp z
      exact⟨j,by lia,h2⟩
     ·exact⟨i,by lia,(zAg.mp z).symm⟩
   ·rintro ⟨j,h1,h2⟩
    have old:∀ {z},z∈ks->z∈(if val i∈ks then ks else ks++[val i]):=fun {z} hz=>by
     split
     ·exact hz
     ·exact zBl _ hz
    by_cases c:j<i
    ·exact old ((mem y).mpr ⟨j,c,h2⟩)
    ·have e:j=i:=by lia
     subst e
     split
     ·rw[<- h2]; assumption
     ·rw[<- h2]; exact zAC _ (zAg.mpr rfl)
  refine zCu ⟨plainId_quiet PyProof.Rows.F.plain_set_update_loop _,ih (i+1) _ ks' (by lia) (by lia) (W.frame _ s' _ _ st' (zBh _) fun b hb o e=>?_) g2 mem' len' fun s2 ks2 hm2 g3 m3 l3=>?_⟩
  ·rw[sb.2 b (fun z:b=S=>nS (by rw[<- z]; exact hb))]; exact e
  ·refine fin s2 ks2 (Moved.trans W.gtrans ((hm.mono sub).then_heap (zBh _) fun b o hb e=>?_) hm2) g3 m3 l3
   rw[sb.2 b (fun z:b=S=>hb (by rw[z]; exact zAo))]; exact e
end
section
variable {prog:Program} {w:World} {A:Around} {E:Value->Shared->Prop} {s:Shared}
abbrev Hc (w:World):Obj:={ cls:=.type "set",dict:=none,data:=.set #[] 0 (.fresh 0 0 (!w.params.followText "set-order")) }
theorem X9 {h:Heap} {a:Addr} (ho:h.get? a=some (Hc w)):GSet (intKind prog w) h a []:=by
 refine⟨_,#[],0,_,ho,⟨rfl,rfl,rfl⟩,rfl,.nil,zCf,by decide,rfl,?_⟩;exact Ou (w.params.followText "set-order")
theorem set_of_list {l:Addr} {items:Array Value} {ns:List Int} {Q:Value->Shared->Prop} (hh:A.handled=none) (hl:s.heap.IsList l items) (hi:PyProof.Rows.IntsAre items.toList ns) (hb:items.size+1<scanBound)
  (h:∀ (h':Heap) (tk:Nat) (ks:List Int),GSet (intKind prog w) h' s.heap.objs.size ks->(∀ y,y∈ks↔y∈ns)->ks.length<=items.size->(∀ b o,s.heap.get? b=some o->h'.get? b=some o)->Q (.ref s.heap.objs.size) { s with heap:=h',toks:=tk }) :
  wpAny (model prog w) A (call (.type "set") [.ref l]) Q E s:=by
 obtain⟨c,tl,hmro⟩:=F.called_set.mro;have hmade:=F.called_set.made;have hsub:=F.called_set.sub;have h1:=F.called_set.notType;have h2:=F.called_set.canCreate;have hct:=F.typeCall_set_1 (.ref l);refine wpAny_call (codeAny_of_tree (show wpAny _ _ (callAny (.type "set") _) _ _ _ from ?_));refine zCu ⟨Code.quiet_builtin _ (by ac_nf),codeAny_builtin F.entry_type_call ?_⟩;rw[Around.under_plain (weight_type_call_type "set" [.ref l] []) rfl]
 repeat (any_goals (first | assumption | wp_step))
 refine codeAny_mono (C7 (x:=.ref l) (E:=E) (Q:=fun v s₁ => v = .ref s.heap.objs.size/\s₁ = { s with heap:=s.heap.push (Hc w) }) ⟨rfl,rfl⟩) fun r s₁ hr=>?_;cases r with
 | error e=>exact hr
 | ok fl=>
  cases fl with
  | ret obj=>
   obtain⟨rfl,rfl⟩:=hr;have at0:(s.heap.push (Hc w)).get? s.heap.objs.size=some (Hc w):=zAt _ rfl;have hT:Shared.TypeIs { s with heap:=s.heap.push (Hc w) } (.ref s.heap.objs.size) "set" := ⟨_,at0,rfl⟩;have hli:=F.called_set.init.lookup;have hbi:=F.called_set.init.bind (.ref s.heap.objs.size)
   repeat (any_goals (first | assumption | wp_step))
   refine codeAny_mono (codeAny_call_builtin (R:=wants (fun r s₂ => r = .none/\∃ h' tk ks,s₂ = { s with heap:=h',toks:=tk }/\GSet (intKind prog w) h' s.heap.objs.size ks/\(∀ y,y∈ks↔y∈ns)/\ks.length<=items.size/\(∀ b o,s.heap.get? b=some o->h'.get? b=some o)) E)
    F.called_set.init.plain F.entry_set_init (check_set_init_1 hT ?_)) fun r₂ s₂ hr₂ => ?_
   ·obtain⟨⟨oc,od,odt,osl⟩,hol,hcl,nl,hdl⟩:=id hl
    simp only at hcl hdl;subst hcl hdl;have old:(s.heap.push (Hc w)).get? l=some { cls:=.type "list",dict:=od,data:=.seq items nl,slots:=osl }:=zAc _ hol;have il:(s.heap.push (Hc w)).IsList l items:=⟨_,old,rfl,nl,rfl⟩;have lt:l<s.heap.objs.size:=zAh hol;have u1:=F.sub_list_set;have u2:=F.sub_list_frozenset;have u3:(Value.type "list" == Value.type "dict")=false:=by decide
    unfold Builtin.«set.__init__» noKeywords Builtin.Frozenset.updateFrom;generalize hPI:pyIter=PI
    wp_walk
    subst hPI;refine wpAny_pyIter_list il (zCt (wpAny_runValue ?_));have sz:(s.heap.push (Hc w)).objs.size=s.heap.objs.size+1:=zBm ..;have ne:l≠(s.heap.push (Hc w)).objs.size:=by rw[sz]; exact zAm (zAU lt)
    have h3:A.in1.in1.in1.handled=none:=by simp [hh]
    have nf:s.heap.objs.size∉[(s.heap.push (Hc w)).objs.size,l]:=by
     rw[sz];intro z;rcases zAp.mp z with z | z
     ·exact absurd z (zAm (zBs _))
     ·exact absurd (zAg.mp z) (zAF lt)
    have hv:∀ (i:Nat) (v:Value),items[i]?=some v->∃ t,v = .int ((fun i=>ns.getD i 0) i) t:=fun i v e=>PyProof.Rows.IntsAre.int_at hi i v (by rw[zBi]; exact e);have ln:items.size=ns.length:=by rw[<- zAw]; exact hi.length
    refine Wh ((Walks.list h3 _ l ne items).toS) s.heap.objs.size nf (fun i=>ns.getD i 0) hv hb (items.size-0) 0 _ [] (by lia) (zAk _) ⟨⟨_,zAt _ rfl,rfl,rfl⟩,il.push _⟩ (X9 (zAc _ at0)) (fun y=>⟨fun z=>(nomatch z),fun ⟨j,z,_⟩=>absurd z (zBp _)⟩) (zAk _) fun s' ks hm g m ln'=>?_;obtain⟨h',g',d',tk',os'⟩:=s';have eg:g'=s.gens:=hm.gens;have ed:d'=s.drawn:=hm.drawn;have eo:os'=s.os:=hm.os;subst eg ed eo;refine zCu (zCu ⟨rfl,h',tk',ks,rfl,g,fun y=>?_,ln',fun b o e=>?_⟩)
    ·rw[m y]
     constructor
     ·rintro ⟨j,z1,z2⟩
      rw[<- z2];show ns.getD j 0∈ns;rw[zAI,zAn (by lia)];exact zBj _
     ·intro z
      obtain⟨j,hj,e⟩:=zBq z;refine⟨j,by lia,?_⟩;show ns.getD j 0=y;rw[zAI,zAn hj];exact e
    ·refine hm.heap b o (fun z=>?_) (zAc _ (zAc _ e))
     have lb:=zAh e;rcases zAp.mp z with z | z
     ·exact absurd z (zAm lb)
     ·exact absurd (zAg.mp z) (by rw[sz]; exact zAm (zAU lb))
   ·cases r₂ with
    | error e=>exact hr₂
    | ok fl₂ =>
     cases fl₂ with
     | ret r=>
      obtain⟨rfl,h',tk,ks,rfl,g,m,ln,k⟩:=hr₂
      repeat (any_goals (first | assumption | wp_step))
      exact h _ _ ks g m ln k
     | _=>exact hr₂.elim
  | _=>exact hr.elim
end
end CST
namespace CST
open PySem PyProof.Rows
section
variable {prog:Program} {w:World} {A:Around} {E:Value->Shared->Prop} {s:Shared}
theorem Nm:∀ {l:List (Int×Value)} {ks:List Int},Paired (CH (intKind prog w)) l ks->IntsAre (l.map (·.2)) ks
 | _,_,.nil=>.nil
 | e::l,k::ks,.cons r t=>by
  obtain⟨tk,h⟩:=Value.isInt_shape r.1;rw[zBa,h];exact .cons k tk (Nm t)
theorem N3:∀ {vs us:List Value},vs.Perm us->∀ {ns:List Int},IntsAre us ns->∃ ms:List Int,IntsAre vs ms/\ms.Perm ns:=by
 intro vs us p;have q:=p.symm;clear p
 induction q with
 | nil=>intro ns h; exact⟨ns,h,List.Perm.refl _⟩
 | cons x _ ih=>
  intro ns h;cases h with
  | cons n t r=>
   obtain⟨ms,h1,h2⟩:=ih r;exact⟨n::ms,.cons n t h1,h2.cons n⟩
 | swap x y l=>
  intro ns h;cases h with
  | cons n t r=>
   cases r with
   | cons m u r2=>exact⟨_,.cons m u (.cons n t r2),List.Perm.swap _ _ _⟩
 | trans _ _ ih1 ih2=>
  intro ns h;obtain⟨m1,h1,p1⟩:=ih1 h;obtain⟨m2,h2,p2⟩:=ih2 h1;exact⟨m2,h2,p2.trans p1⟩
theorem sorted_set {a:Addr} {ks:List Int} {Q:Value->Shared->Prop} (hh:A.handled=none) (g:GSet (intKind prog w) s.heap a ks) (h64:ks.length<64)
  (h:∀ (s':Shared) (l:Addr) (out:Array Value) (ms:List Int) (e:Nat),IntsAre out.toList ms->ms.Perm ks->ms.Pairwise (· <= ·)->(∀ b o,s.heap.get? b=some o->s'.heap.get? b=some o)->a<l->s'.heap.get? l=some (seqObj "list" out e)->s'.gens=s.gens->s'.os=s.os->Q (.ref l) s') :
  wpAny (model prog w) A (call (.builtin "sorted") [.ref a]) Q E s:=by
 obtain⟨o,es,ep,t,ho,hex,hd,hp,nd,hb,hf,gd⟩:=g;have lk:es.size=ks.length:=by rw[<- zAw]; exact Paired.length hp
 have line:es.size<=sizeLine:=by rw[zCv]; lia
 refine Calls.call_function_entry kind_sorted plain_sorted entry_sorted (args_sorted1 _) ?_;unfold Builtin.«sorted»;refine zCt (m:=checkCount "sorted" 1 1 _) (zCu (zCt (Nk (by exact hh) hex.1 ho hd hf gd line fun s' vs pm k eg eo=>?_)));have lv:vs.length=ks.length:=by rw[pm.length_eq,zAb,zAw,lk]
 obtain⟨ms,im,mp⟩:=N3 pm (Nm hp);refine zCt (wpAny_newList ?_ (by rw[lv,<- lk]; exact line));have at1:(s'.heap.push (seqObj "list" vs.toArray 0)).get? s'.heap.objs.size=some (seqObj "list" vs.toArray 0):=zAt _ rfl;refine zCt (wpAny_holding (wpAny_call_entry slot_list_sort ⟨_,at1,rfl⟩ entry_list_sort (list_sort_tree (s:={ s' with heap:=s'.heap.push (seqObj "list" vs.toArray 0) }) at1 im (by lia) fun out ns' a1 a2 a3=>⟨_,rfl,?_⟩) (args_list_sort _)));refine zCu ⟨_,rfl,?_⟩;obtain⟨e,he⟩:=sortedHeap_at (out:=out) at1;have lt:∀ b ob,s.heap.get? b=some ob->b<s'.heap.objs.size:=fun b ob z=>zAh (k b ob z);refine h _ s'.heap.objs.size out ns' e a1 (a2.trans mp) a3 (fun b ob z=>?_) ?_ he eg eo
 ·show (sortedHeap _ _ _ _).get? b=_
  rw[sortedHeap_old (zAm (lt b ob z)) (by rw[size_push']; exact zAU (lt b ob z))];exact zAc _ (k b ob z)
 ·exact lt a o ho
end
end CST
namespace L2
open PySem PySem.Spec PyProof.Rows PySem.W
theorem Mo:∀ {us:List Value} {ns:List Int},IntsAre us ns->Vals (ns.map V.int) us
 | _,_,.nil=>.nil
 | _,_,.cons n t r=>.cons ⟨t,rfl⟩ (Mo r)
section
variable {X:Cx}
def T8 (K:zAa) (te:TE):TE:=fun σ H Q=>te σ H fun x H1=>∃ (a:Addr) (ns:List Int),x = .ref a/\SqL K H1 a (ns.map V.int)/\ns.length<64 /\
 ∀ (l:Addr) (ms:List Int),H1 l=none->ms.Pairwise (· < ·)->(∀ y,y∈ms↔y∈ns)->Q (.ref l) (upd H1 l (.lst (ms.map V.int)))
theorem Iz:∀ {ms:List Int},ms.Pairwise (· <= ·)->ms.Nodup->ms.Pairwise (· < ·)
 | [],_,_=>.nil
 | x::ms,h,n=>by
  rw[zBu] at h;rw[zBo] at n;rw[zBu];refine⟨fun y hy=>?_,Iz h.2 n.2⟩;have:=h.1 y hy;have ne:x≠y:=fun z=>n.1 (by rw[z]; exact hy)
  lia
theorem Yu {e:Expr} {te:TE} {p1 p2 pos1 pos2:Pos} (he:PE X e te) (hc:X.calm=true) (hg1:Gl X "sorted") (hm1:X.mg "sorted" = none) (hg2:Gl X "set") (hm2:X.mg "set" = none)
  (hv1:zCw "sorted" = some (.builtin "sorted"):=by rfl) (hv2:zCw "set" = some (.type "set"):=by rfl)
  (hs1:starEach [.Call (.Name "set" p2) [e] [] pos2] X.env=[(false,eval (.Call (.Name "set" p2) [e] [] pos2) X.env)]:=by rfl) (hs2:starEach [e] X.env=[(false,eval e X.env)]:=by rfl) :
  PE X (.Call (.Name "sorted" p1) [.Call (.Name "set" p2) [e] [] pos2] [] pos1) (T8 X.K te):=by
 intro pins s σ H Q I h;refine wpAny_Call_Name_kw (Dm I hg1 hm1 hv1 ?_ (by decide) (by decide));refine PyProof.Rows.callWith_builtin1 ?_ hs1 rfl;rw[hs1];show wpAny _ _ (spliced ((false,eval (.Call (.Name "set" p2) [e] [] pos2) X.env)::backTo pos1 [])) _ _ s;refine Calls.spliced_cons ?_;refine wpAny_Call_Name_kw (Dm I hg2 hm2 hv2 ?_ (by decide) (by decide));refine PyProof.Rows.callWith_type1 ?_ hs2 rfl;rw[hs2];show wpAny _ _ (spliced ((false,eval e X.env)::backTo pos2 [])) _ _ s;refine Calls.spliced_cons (Ca (he pins s σ H _ I h) fun u s1 ⟨x,H1,I1,r1,a,ns,ex,hq,l64,q⟩=>?_);subst ex;cases r1;refine Calls.spliced_nil ?_;obtain⟨its,rv,pl,hz⟩:=I1.list hq;have hl:=rv.length;rw[zAb] at hl;have hh:X.A.handled=none:=I.ok.hd hc;refine CST.set_of_list (items:=its.toArray) (ns:=ns) hh pl.isList (Lb rv) (by rw[zAd]; unfold scanBound; lia) fun h2 tk ks g mem len k2=>?_;refine Calls.spliced_nil ?_;rw[zAd] at len;refine CST.sorted_set (s:={ s1 with heap:=h2,toks:=tk }) hh g (by lia) fun s' l out ms ee im pm pw k3 al hl' eg eo=>?_;have nd:ms.Nodup:=by
  obtain⟨_,_,_,_,_,_,_,_,nd,_⟩:=g;exact pm.nodup_iff.mpr nd
 have lt:=Iz pw nd;have kk:∀ b ob,s1.heap.get? b=some ob->s'.heap.get? b=some ob:=fun b ob z=>k3 b ob (k2 b ob z);have le:s1.heap.objs.size<=l:=zBw al;have lp:(ms.map V.int).length<=sizeLine:=by rw[zAb,pm.length_eq,zCv]; lia
 have new:ObjOk X.prog X.w (upd H1 l (.lst (ms.map V.int))) s'.heap l (.lst (ms.map V.int)):=⟨lp,out.toList,ee,Mo im,hl'⟩;refine⟨.ref l,upd H1 l (.lst (ms.map V.int)),I1.call' (s':=s') (ch:=[]) eo (Un.laid kk le (I1.hok.fresh le)) (I1.hok.laid kk le new) (by rw[eg]; exact I1.bare) (fun b z=>(nomatch z)),rfl,q l ms (I1.hok.fresh le) lt fun y=>?_⟩;rw[pm.mem_iff];exact mem y
theorem Pw {ns:List Int} {its:List Value} (rv:Vals (ns.map V.int) its):∃ ys,its.toArray=intItems ys/\ys.size=ns.length/\∀ i,(h:i<ns.length)->numAt ys i=ns[i]:=by
 have hi:IntsAre its ns:=Jy rv;obtain⟨ys,ey⟩:=hi.allInts.items;have lenI:its.length=ns.length:=hi.length;have hy:ys.size=ns.length:=by
  have z:=congrArg Array.size ey;rw[zAd] at z;unfold intItems at z;rw[Array.size_map] at z
  lia
 refine⟨ys,ey,hy,fun i h=>?_⟩;obtain⟨u,hu,t,ru⟩:=rv.get (i:=i) (x:=.int ns[i]) (by rw[zAu,zAn h]; rfl);have e1:(intItems ys)[i]?=some u:=by rw[<- ey,zBF]; exact hu
 obtain⟨t',e2⟩:=intItems_at e1;rw[ru] at e2;injection e2 with e3;exact e3.symm
def CG (K:zAa) (le:Int->Int->Prop):List V->Hp->VK->Prop:=fun xs H Q=>∃ p,∃ ns:List Int,xs=[.ref p]/\SqL K H p (ns.map V.int)/\ns≠[]/\∀ m∈ns,(∀ k∈ns,le m k)->Q (.int m) H
theorem I9 (hc:X.calm=true):Fk X (.builtin "min") (CG X.K (fun m k=>m<=k)):=by
 intro pins s σ H xs us Q I r h;obtain⟨p,ns,rfl,hq,hne,q⟩:=h;obtain⟨u,rfl,rx⟩:=Ia r;cases rx;obtain⟨its,rv,pl,hz⟩:=I.list hq;obtain⟨ys,ey,hy,hn⟩:=Pw rv;have hl:s.heap.IsList p (intItems ys):=ey▸pl.isList;have hpos:0<ns.length:=List.length_pos_iff.mpr hne;refine min_intList (I.ok.hd hc) hl (by lia) fun v h' tk hv hk=>?_;obtain⟨b1,b2⟩:=argBest_lt (numAt ys) (ys.size-1);obtain⟨t,rfl⟩:=intItems_at hv;generalize argBest (fun i j=>decide (numAt ys i<numAt ys j)) (ys.size-1)=z at b1 b2;have zl:z<ns.length:=by lia
 refine⟨.int (numAt ys z),H,I.kept hk,⟨t,rfl⟩,q _ ?_ fun k hk'=>?_⟩
 ·rw[hn z zl]
  exact zBj _
 ·obtain⟨j,hj,e⟩:=zBq hk'
  rw[<- e,<- hn j hj];exact b2 j (by lia)
theorem M9 (hc:X.calm=true):Fk X (.builtin "max") (CG X.K (fun m k=>k<=m)):=by
 intro pins s σ H xs us Q I r h;obtain⟨p,ns,rfl,hq,hne,q⟩:=h;obtain⟨u,rfl,rx⟩:=Ia r;cases rx;obtain⟨its,rv,pl,hz⟩:=I.list hq;obtain⟨ys,ey,hy,hn⟩:=Pw rv;have hl:s.heap.IsList p (intItems ys):=ey▸pl.isList;have hpos:0<ns.length:=List.length_pos_iff.mpr hne;refine max_intList (I.ok.hd hc) hl (by lia) fun v h' tk hv hk=>?_;obtain⟨b1,b2⟩:=argBest_gt (numAt ys) (ys.size-1);obtain⟨t,rfl⟩:=intItems_at hv;generalize argBest (fun i j=>decide (numAt ys i>numAt ys j)) (ys.size-1)=z at b1 b2;have zl:z<ns.length:=by lia
 refine⟨.int (numAt ys z),H,I.kept hk,⟨t,rfl⟩,q _ ?_ fun k hk'=>?_⟩
 ·rw[hn z zl]
  exact zBj _
 ·obtain⟨j,hj,e⟩:=zBq hk'
  rw[<- e,<- hn j hj];exact b2 j (by lia)
end
end L2
namespace L2
open PySem PySem.Spec PyProof.Rows
inductive Co where
 | alw | cau (n:Str) | thi (n:Str) | day (a b:Int) | ovr (m:Int)
inductive Cnd where
 | at (c:Co) | no (t:Cnd) | al (ts:List Cnd) | so (ts:List Cnd)
structure A8 where
 a0:Addr
 a1:Addr
 a2:Addr
 a3:Addr
 a4:Addr
 a5:Addr
 a6:Addr
 a7:Addr
def A8.l (κ:A8):List Addr:=[κ.a0,κ.a1,κ.a2,κ.a3,κ.a4,κ.a5,κ.a6,κ.a7]
def A8.cl (κ:A8) (i:Nat):Addr:=κ.l.getD i 0
theorem A8.inj {κ:A8} (nd:κ.l.Nodup) {i j:Nat} (hi:i<8) (hj:j<8) (h:κ.cl i=κ.cl j):i=j:=by
 have hl:κ.l.length=8:=rfl;unfold A8.cl at h;rw[zAI,zAI,zAn (by lia),zAn (by lia)] at h;have p:=zBI.mp nd;rcases zBN i j with c | c | c
 ·exact absurd h (p i j (by lia) (by lia) c)
 ·exact c
 ·exact absurd h.symm (p j i (by lia) (by lia) c)
def kd:Cnd->Nat
 | .at .alw=>0
 | .at (.cau _)=>1
 | .at (.thi _)=>2
 | .at (.day _ _)=>3
 | .at (.ovr _)=>4
 | .no _=>5
 | .al _=>6
 | .so _=>7
theorem Tj (t:Cnd):kd t<8:=by
 cases t with
 | «at» c=>cases c <;> simp [kd]
 | no t=>exact (by decide:5<8)
 | al ts=>exact (by decide:6<8)
 | so ts=>exact (by decide:7<8)
def A8.of (κ:A8) (t:Cnd):Addr:=κ.cl (kd t)
section
variable {κ:A8} {t:Cnd}
theorem JO (nd:κ.l.Nodup) (h:κ.of t=κ.a0):t = .at .alw:=by
 have e:kd t=0:=A8.inj nd (Tj t) (by decide) h;cases t with
 | «at» c=>cases c <;> first | rfl | (simp [kd] at e)
 | _=>simp [kd] at e
theorem JF (nd:κ.l.Nodup) (h:κ.of t=κ.a1):∃ n,t = .at (.cau n):=by
 have e:kd t=1:=A8.inj nd (Tj t) (by decide) h;cases t with
 | «at» c=>cases c <;> first | exact⟨_,rfl⟩ | (simp [kd] at e)
 | _=>simp [kd] at e
theorem JD (nd:κ.l.Nodup) (h:κ.of t=κ.a2):∃ n,t = .at (.thi n):=by
 have e:kd t=2:=A8.inj nd (Tj t) (by decide) h;cases t with
 | «at» c=>cases c <;> first | exact⟨_,rfl⟩ | (simp [kd] at e)
 | _=>simp [kd] at e
theorem JA (nd:κ.l.Nodup) (h:κ.of t=κ.a3):∃ a b,t = .at (.day a b):=by
 have e:kd t=3:=A8.inj nd (Tj t) (by decide) h;cases t with
 | «at» c=>cases c <;> first | exact⟨_,_,rfl⟩ | (simp [kd] at e)
 | _=>simp [kd] at e
theorem JP (nd:κ.l.Nodup) (h:κ.of t=κ.a4):∃ n,t = .at (.ovr n):=by
 have e:kd t=4:=A8.inj nd (Tj t) (by decide) h;cases t with
 | «at» c=>cases c <;> first | exact⟨_,rfl⟩ | (simp [kd] at e)
 | _=>simp [kd] at e
theorem JH (nd:κ.l.Nodup) (h:κ.of t=κ.a7):∃ u,t = .so u:=by
 have e:kd t=7:=A8.inj nd (Tj t) (by decide) h;cases t with
 | «at» c=>cases c <;> simp [kd] at e
 | so u=>exact⟨_,rfl⟩
 | _=>simp [kd] at e
end
def Hb:Co->List (Str×V)
 | .alw=>[]
 | .cau n=>Bi "name" (.str n) []
 | .thi n=>Bi "name" (.str n) []
 | .day a b=>Bi "last" (.int b) (Bi "first" (.int a) [])
 | .ovr m=>Bi "cents" (.int m) []
mutual
def CdAt (κ:A8) (H:Hp):V->Cnd->Prop
 | v,.at c=>∃ p dx,v = .ref p/\H p=some (.ins (κ.of (.at c)) dx (Hb c))
 | v,.no t=>∃ p dx w,v = .ref p/\H p=some (.ins κ.a5 dx (Bi "part" w []))/\CdAt κ H w t
 | v,.al ts=>∃ p dx l vs,v = .ref p/\H p=some (.ins κ.a6 dx (Bi "several" (.ref l) []))/\H l=some (.lst vs)/\CdsAt κ H vs ts
 | v,.so ts=>∃ p dx l vs,v = .ref p/\H p=some (.ins κ.a7 dx (Bi "several" (.ref l) []))/\H l=some (.lst vs)/\CdsAt κ H vs ts
def CdsAt (κ:A8) (H:Hp):List V->List Cnd->Prop
 | [],[]=>True
 | v::vs,t::ts=>CdAt κ H v t/\CdsAt κ H vs ts
 | [],_::_=>False
 | _::_,[]=>False
end
mutual
def JN:Cnd->Nat
 | .at _=>0
 | .no t=>JN t+1
 | .al ts=>hgts ts+1
 | .so ts=>hgts ts+1
def hgts:List Cnd->Nat
 | []=>0
 | t::ts=>max (JN t) (hgts ts)
end
structure LS where
 d:Int
 th:Str
 ca:Str
 ct:Int
def DB:Co->LS->Bool
 | .alw,_=>true
 | .cau n,x=>decide (V.str x.ca=V.str n)
 | .thi n,x=>decide (V.str x.th=V.str n)
 | .day a b,x=>decide (a<=x.d)&&decide (x.d<=b)
 | .ovr m,x=>decide (m<x.ct)
mutual
def hT:Cnd->LS->Bool
 | .at c,x=>DB c x
 | .no t,x => !hT t x
 | .al ts,x=>hAll ts x
 | .so ts,x=>hSom ts x
def hAll:List Cnd->LS->Bool
 | [],_=>true
 | t::ts,x=>hT t x&&hAll ts x
def hSom:List Cnd->LS->Bool
 | [],_=>false
 | t::ts,x=>hT t x||hSom ts x
end
mutual
theorem CdAt.same {κ:A8} {H H':Hp} (s:Same H H'):∀ {v:V} (t:Cnd),CdAt κ H v t->CdAt κ H' v t
 | v,.at c,h=>by
  unfold CdAt at h ⊢;obtain⟨p,dx,e,h⟩:=h;exact⟨p,dx,e,s _ _ h⟩
 | v,.no t,h=>by
  unfold CdAt at h ⊢;obtain⟨p,dx,w,e,h,r⟩:=h;exact⟨p,dx,w,e,s _ _ h,CdAt.same s t r⟩
 | v,.al ts,h=>by
  unfold CdAt at h ⊢;obtain⟨p,dx,l,vs,e,h,g,r⟩:=h;exact⟨p,dx,l,vs,e,s _ _ h,s _ _ g,CdsAt.same s ts r⟩
 | v,.so ts,h=>by
  unfold CdAt at h ⊢;obtain⟨p,dx,l,vs,e,h,g,r⟩:=h;exact⟨p,dx,l,vs,e,s _ _ h,s _ _ g,CdsAt.same s ts r⟩
theorem CdsAt.same {κ:A8} {H H':Hp} (s:Same H H'):∀ {vs:List V} (ts:List Cnd),CdsAt κ H vs ts->CdsAt κ H' vs ts
 | [],[],_=>by unfold CdsAt; trivial
 | v::vs,t::ts,h=>by
  unfold CdsAt at h ⊢;exact⟨CdAt.same s t h.1,CdsAt.same s ts h.2⟩
 | [],_::_,h=>by unfold CdsAt at h; exact h.elim
 | _::_,[],h=>by unfold CdsAt at h; exact h.elim
end
theorem CdsAt.len {κ:A8} {H:Hp}:∀ {vs:List V} {ts:List Cnd},CdsAt κ H vs ts->vs.length=ts.length
 | [],[],_=>rfl
 | v::vs,t::ts,h=>by
  unfold CdsAt at h;rw[zAl,zAl,CdsAt.len h.2]
 | [],_::_,h=>by unfold CdsAt at h; exact h.elim
 | _::_,[],h=>by unfold CdsAt at h; exact h.elim
theorem CdsAt.get {κ:A8} {H:Hp}:∀ {vs:List V} {ts:List Cnd} {i:Nat} {v:V},CdsAt κ H vs ts->vs[i]?=some v->∃ t,ts[i]?=some t/\CdAt κ H v t
 | [],[],_,_,_,e=>by simp at e
 | v::vs,t::ts,0,u,h,e=>by
  unfold CdsAt at h;simp at e;subst e;exact⟨t,rfl,h.1⟩
 | v::vs,t::ts,i+1,u,h,e=>by
  unfold CdsAt at h;obtain⟨t',e',r⟩:=CdsAt.get (i:=i) h.2 (by simpa using e);exact⟨t',by simpa using e',r⟩
 | [],_::_,_,_,h,_=>by unfold CdsAt at h; exact h.elim
 | _::_,[],_,_,h,_=>by unfold CdsAt at h; exact h.elim
theorem CdsAt.snoc {κ:A8} {H:Hp}:∀ {vs:List V} {ts:List Cnd} {v:V} {t:Cnd},CdsAt κ H vs ts->CdAt κ H v t->CdsAt κ H (vs++[v]) (ts++[t])
 | [],[],v,t,_,r=>by
  show CdsAt κ H [v] [t];unfold CdsAt;exact⟨r,by unfold CdsAt; trivial⟩
 | v::vs,t::ts,v',t',h,r=>by
  unfold CdsAt at h;show CdsAt κ H (v::(vs++[v'])) (t::(ts++[t']));unfold CdsAt;exact⟨h.1,CdsAt.snoc h.2 r⟩
 | [],_::_,_,_,h,_=>by unfold CdsAt at h; exact h.elim
 | _::_,[],_,_,h,_=>by unfold CdsAt at h; exact h.elim
theorem G4 {ts:List Cnd} {t:Cnd} {x:LS} {i:Nat} (e:ts[i]?=some t):hSom (ts.drop i) x=(hT t x||hSom (ts.drop (i+1)) x):=by
 rw[zCa (zAj.mp e).1,(zAj.mp e).2,hSom]
theorem IP:¬ (("first" : Str) = "last"):=by ac_nf
theorem Xz (n:Str):(Hb (.cau n)).lookup ("name" : Str)=some (.str n):=by unfold Hb; rw[Bl,if_pos rfl]
theorem Xy (n:Str):(Hb (.thi n)).lookup ("name" : Str)=some (.str n):=by unfold Hb; rw[Bl,if_pos rfl]
theorem C2 (a b:Int):(Hb (.day a b)).lookup ("last" : Str)=some (.int b):=by unfold Hb; rw[Bl,if_pos rfl]
theorem Wo (a b:Int):(Hb (.day a b)).lookup ("first" : Str)=some (.int a):=by unfold Hb; rw[Bl,if_neg IP,Bl,if_pos rfl]
theorem Xs (m:Int):(Hb (.ovr m)).lookup ("cents" : Str)=some (.int m):=by unfold Hb; rw[Bl,if_pos rfl]
theorem X7 (f:Str) (v:V):(Bi f v []).lookup f=some v:=by rw[Bl,if_pos rfl]
theorem Fj {f g:Str} (h:¬ g=f) (v:V):(Bi f v []).lookup g=none:=by rw[Bl,if_neg h]; rfl
theorem E9 (c:Co) {m:Str} (h1:¬ m = "name") (h2:¬ m = "first") (h3:¬ m = "last") (h4:¬ m = "cents"):(Hb c).lookup m=none:=by
 cases c with
 | alw=>rfl
 | cau n=>unfold Hb; rw[Bl,if_neg h1]; rfl
 | thi n=>unfold Hb; rw[Bl,if_neg h1]; rfl
 | day a b=>unfold Hb; rw[Bl,if_neg h3,Bl,if_neg h2]; rfl
 | ovr m=>unfold Hb; rw[Bl,if_neg h4]; rfl
theorem CdAt.obj {κ:A8} {H:Hp} {v:V} {t:Cnd} (h:CdAt κ H v t):∃ p dx fs,v = .ref p/\H p=some (.ins (κ.of t) dx fs) /\
  fs.lookup ("holds" : Str)=none/\fs.lookup ("rank" : Str)=none/\fs.lookup ("words" : Str)=none/\fs.lookup ("marks" : Str)=none:=by
 cases t with
 | «at» c=>
  unfold CdAt at h;obtain⟨p,dx,e,h⟩:=h;exact⟨p,dx,_,e,h,E9 c (by ac_nf) (by ac_nf) (by ac_nf) (by ac_nf),E9 c (by ac_nf) (by ac_nf) (by ac_nf) (by ac_nf),E9 c (by ac_nf) (by ac_nf) (by ac_nf) (by ac_nf),E9 c (by ac_nf) (by ac_nf) (by ac_nf) (by ac_nf)⟩
 | no t=>
  unfold CdAt at h;obtain⟨p,dx,w,e,h,_⟩:=h;exact⟨p,dx,_,e,h,Fj (by ac_nf) _,Fj (by ac_nf) _,Fj (by ac_nf) _,Fj (by ac_nf) _⟩
 | al ts=>
  unfold CdAt at h;obtain⟨p,dx,l,vs,e,h,_⟩:=h;exact⟨p,dx,_,e,h,Fj (by ac_nf) _,Fj (by ac_nf) _,Fj (by ac_nf) _,Fj (by ac_nf) _⟩
 | so ts=>
  unfold CdAt at h;obtain⟨p,dx,l,vs,e,h,_⟩:=h;exact⟨p,dx,_,e,h,Fj (by ac_nf) _,Fj (by ac_nf) _,Fj (by ac_nf) _,Fj (by ac_nf) _⟩
def Z2 (H:Hp) (t:Addr) (x:LS):Prop:=∃ ev,∃ n:Int,H t=some (.tup [.int n,.int x.d,.str ev,.str x.th,.str x.ca,.int x.ct])
section
variable {R R':V->Cnd->Prop} {vs ws:List V} {ts us:List Cnd}
end
abbrev Ot:=Str×V
def Pt:Co->List Ot
 | .alw=>[]
 | .cau n=>[("cause",.str n)]
 | .thi n=>[("thing",.str n)]
 | .day a b=>[("day",.int a),("day",.int (b+1))]
 | .ovr m=>[("cents",.int m)]
mutual
def Bv:Cnd->List Ot
 | .at c=>Pt c
 | .no t=>Bv t
 | .al ts=>marksTs ts
 | .so ts=>marksTs ts
def marksTs:List Cnd->List Ot
 | []=>[]
 | t::ts=>Bv t++marksTs ts
end
def Mks (H:Hp):List V->List Ot->Prop
 | [],[]=>True
 | x::xs,m::ms=>(∃ t,x = .ref t/\H t=some (.tup [.str m.1,m.2]))/\Mks H xs ms
 | [],_::_=>False
 | _::_,[]=>False
def MkAt (H:Hp) (a:Addr) (ms:List Ot):Prop:=∃ xs,H a=some (.lst xs)/\Mks H xs ms
theorem Mks.mono {H H':Hp} (s:∀ t xs,H t=some (.tup xs)->H' t=some (.tup xs)):∀ {xs:List V} {ms:List Ot},Mks H xs ms->Mks H' xs ms
 | [],[],_=>trivial
 | [],_::_,h=>h.elim
 | _::_,[],h=>h.elim
 | x::xs,m::ms,⟨⟨t,e,h⟩,r⟩=>⟨⟨t,e,s _ _ h⟩,Mks.mono s r⟩
theorem Mks.len {H:Hp}:∀ {xs:List V} {ms:List Ot},Mks H xs ms->xs.length=ms.length
 | [],[],_=>rfl
 | [],_::_,h=>h.elim
 | _::_,[],h=>h.elim
 | x::xs,p::ps,h=>by rw[zAl,zAl,Mks.len h.2]
theorem Mks.get {H:Hp}:∀ {xs:List V} {ms:List Ot} {i:Nat} {m:Ot},Mks H xs ms->ms[i]?=some m->∃ t,xs[i]?=some (.ref t)/\H t=some (.tup [.str m.1,m.2])
 | [],[],_,_,_,e=>by simp at e
 | [],_::_,_,_,h,_=>h.elim
 | _::_,[],_,_,h,_=>h.elim
 | x::xs,m::ms,0,m',⟨⟨t,e,h⟩,r⟩,q=>by
  simp at q;subst q;exact⟨t,by rw[e]; rfl,h⟩
 | x::xs,m::ms,i+1,m',⟨_,r⟩,q=>by
  obtain⟨t,h1,h2⟩:=Mks.get (i:=i) r (by simpa using q);exact⟨t,by simpa using h1,h2⟩
theorem Mks.app {H:Hp}:∀ {xs ys:List V} {ms ns:List Ot},Mks H xs ms->Mks H ys ns->Mks H (xs++ys) (ms++ns)
 | [],_,[],_,_,g=>g
 | [],_,_::_,_,h,_=>h.elim
 | _::_,_,[],_,h,_=>h.elim
 | x::xs,ys,m::ms,ns,h,g=>⟨h.1,Mks.app h.2 g⟩
theorem MkAt.same {H H':Hp} {a:Addr} {ms:List Ot} (h:MkAt H a ms) (s:Same H H'):MkAt H' a ms:=by
 obtain⟨xs,e,r⟩:=h;exact⟨xs,s _ _ e,r.mono fun t xs z=>s _ _ z⟩
theorem Ub (ts:List Cnd) (t:Cnd):marksTs (ts++[t])=marksTs ts++Bv t:=by
 induction ts with
 | nil=>
  have e:marksTs []=[]:=by unfold marksTs; rfl
  show marksTs [t]=_;rw[e,marksTs,e,zAJ]; rfl
 | cons u us ih=>rw[List.cons_append,marksTs,ih,marksTs,zBH]
theorem Vl {ts:List Cnd} {t:Cnd} (h:t∈ts):(Bv t).length<=(marksTs ts).length:=by
 induction ts with
 | nil=>cases h
 | cons u us ih=>
  unfold marksTs;rw[zAi];rcases zAp.mp h with rfl | h
  ·lia
  ·have:=ih h; lia
theorem Vc (ts:List Cnd) (i:Nat):(marksTs (ts.take i)).length<=(marksTs ts).length:=by
 induction ts generalizing i with
 | nil=>rw[List.take_nil]; exact zAf _
 | cons u us ih=>
  cases i with
  | zero=>rw[zBJ]; unfold marksTs; simp
  | succ i=>rw[List.take_succ_cons,marksTs,marksTs,zAi,zAi]; have:=ih i; lia
section
variable {wc:Co->List Str} {φ:Co->Prop}
end
section
variable {X:Cx} {k:Nat} {C:Addr} {m:Str} {ps:List Str} {sp:Sp} {e o:Expr} {es:List Expr} {apos pos:Pos} {ta:TE} {t:TA} {W:St->XK}
end
section
variable {wc:Co->List Str} {φ:Co->Prop} {af:List Str->Nat->Prop}
end
end L2
namespace L2
open PySem PySem.Spec PyProof PyProof.Rows
section
variable {X:Cx} {pins:List (Addr×Obj)} {σ:St} {H:Hp} {s:Shared} {e:Addr}
end
section
variable {M:Model} {A:Around} {E:Value->Shared->Prop} {env:Env}
variable {nm q:Str} {C N:Addr} {bs bm:List Value} {hdct:Bool} {sn:List Str} {sub:List Value} {ab:Bool} {col:Option Bool} {dd:Option Addr} {k0 k1 k2 k3 k5:Option Value} {newId:String}
end
section
variable {X:Cx} {x f:Str} {C:Addr} {np cpos pos apos:Pos} {e o value:Expr} {es:List Expr} {t:TA} {ta tv:TE} {W:St->XK}
end
section
variable {prog:Program} {w:World} {A:Around} {E:Value->Shared->Prop} {env:Env}
variable {nm q:Str} {C N:Addr} {bs bm:List Value} {hdct:Bool} {sn:List Str} {sub:List Value} {ab:Bool} {col:Option Bool} {dd:Option Addr} {k0 k1 k2 k3 k5:Option Value} {newId:String}
end
section
variable {X:Cx} {x f:Str} {C:Addr} {np cpos pos apos cp:Pos} {j:Nat} {e o value:Expr} {es:List Expr} {t:TA} {ta tv:TE} {W:St->XK}
end
section
variable {X:Cx} {x n:Str} {Ch:Addr} {i:Nat} {body suite:List Stmt} {b₀ : Stmt} {tb:(St->XK)->TS} {ts:TS} {np hpos pos:Pos} {pins:List (Addr×Obj)} {σ:St} {H:Hp} {s:Shared} {e:Addr} {oe:Obj}
end
theorem Jc {X:Cx} {K:zAa} {f:Str} {pos:Pos} {e:Expr} {ta:TE} (he:PE X e ta) (hb:attributeBase e f X.env (eval e X.env)=eval e X.env) (hK:X.K=K:=by rfl):PE X (.Attribute e f pos) (HA K ta f):=hK▸Cc he hb
end L2
namespace CST
open PySem
section
variable {prog:Program} {w:World} {A:Around} {E:Value->Shared->Prop} {s:Shared}
variable {R:Result->Shared->Prop} {I:Addr} {fp wr:List Addr} {G:Array GenState->Array GenState->Prop} {n:Nat} {P:Nat->Value->Prop} {St:Nat->Shared->Prop}
theorem GSet.keepS {h h':Heap} {a:Addr} {ks:List Str} (g:GSet (strKind prog w) h a ks) (k:∀ o,h.get? a=some o->h'.get? a=some o):GSet (strKind prog w) h' a ks:=by
 obtain⟨o,es,ep,t,ho,r⟩:=g;exact⟨o,es,ep,t,k o ho,r⟩
theorem Ud (W:WalksS prog w A.in1 I fp wr G n P St) (S:Addr) (nS:S∉fp) (val:Nat->Str) (hv:∀ i v,P i v->∃ t,v = .str (val i) t) (hb:n+1<scanBound) :
  ∀ (k i:Nat) (s:Shared) (ks:List Str),n-i=k->i<=n->St i s->GSet (strKind prog w) s.heap S ks->(∀ y,y∈ks↔∃ j,j<i/\val j=y)->ks.length<=i ->
   (∀ s' ks',Moved (S::wr) G s s'->GSet (strKind prog w) s'.heap S ks'->(∀ y,y∈ks'↔∃ j,j<n/\val j=y)->ks'.length<=n->R (.ok (.ret .none)) s') ->
   codeAny (model prog w) A (.builtin "set.update.loop" ⟨[.ref S,.ref I],[]⟩) R s:=by
 have nw:S∉wr:=fun z=>nS (W.sub _ z);have sub:∀ b∈wr,b∈S::wr:=fun b hb=>zAs _ hb;intro k
 induction k with
 | zero=>
  intro i s ks hk hi st g mem len fin;have e:i=n:=by lia
  subst e;refine codeAny_builtin PyProof.Rows.F.entry_set_update_loop ?_;rw[Around.under_plainId PyProof.Rows.F.plain_set_update_loop _];show wpAny _ A.in1 (pyNext (.ref I) >>= _) _ _ s;refine zCt (W.done s _ _ st fun s' hm=>?_);show wpAny _ A.in1 (ret Value.none) _ _ s';exact zCu (fin s' ks (hm.mono sub) (GSet.keepS g fun o e=>hm.heap S o nw e) mem len)
 | succ k ih=>
  intro i s ks hk hi st g mem len fin;refine codeAny_builtin PyProof.Rows.F.entry_set_update_loop ?_;rw[Around.under_plainId PyProof.Rows.F.plain_set_update_loop _];show wpAny _ A.in1 (pyNext (.ref I) >>= _) _ _ s;refine zCt (W.item i s _ _ (by lia) st fun v s' hP st' hm=>?_);obtain⟨tk,rfl⟩:=hv i v hP;have g':=GSet.keepS g fun o e=>hm.heap S o nw e;show wpAny _ A.in1 (holding [Value.str (val i) tk] (setAdd S (.str (val i) tk)) >>= _) _ _ s';refine zCt (wpAny_holding ?_);unfold setAdd;refine wpAny_holding (zCt ((strKind prog w).pyHash (k:=val i) (strKind_is _ _ _ _) ?_));refine CJ (knd:=strKind prog w) (s:={ s' with toks:=s'.toks+1 }) (strKind_is _ _ _ _) rfl g' (by lia) fun b h' ks' sb g2 pm=>?_;have len':ks'.length<=i+1:=by
   rw[pm.length_eq]
   split
   ·lia
   ·rw[zAi,List.length_singleton]; lia
  have mem':∀ y,y∈ks'↔∃ j,j<i+1/\val j=y:=fun y=>by
   rw[pm.mem_iff];constructor
   ·intro hy
    split at hy
    ·obtain⟨j,h1,h2⟩:=(mem y).mp hy
     exact⟨j,by lia,h2⟩
    ·rcases zAy.mp hy with z | z
     ·obtain⟨j,h1,h2⟩:=(mem y).mp z
      exact⟨j,by lia,h2⟩
     ·exact⟨i,by lia,(zAg.mp z).symm⟩
   ·rintro ⟨j,h1,h2⟩
    have old:∀ {z},z∈ks->z∈(if val i∈ks then ks else ks++[val i]):=fun {z} hz=>by
     split
     ·exact hz
     ·exact zBl _ hz
    by_cases c:j<i
    ·exact old ((mem y).mpr ⟨j,c,h2⟩)
    ·have e:j=i:=by lia
     subst e
     split
     ·rw[<- h2]; assumption
     ·rw[<- h2]; exact zAC _ (zAg.mpr rfl)
  refine zCu ⟨plainId_quiet PyProof.Rows.F.plain_set_update_loop _,ih (i+1) _ ks' (by lia) (by lia) (W.frame _ s' _ _ st' (zBh _) fun b hb o e=>?_) g2 mem' len' fun s2 ks2 hm2 g3 m3 l3=>?_⟩
  ·rw[sb.2 b (fun z:b=S=>nS (by rw[<- z]; exact hb))]; exact e
  ·refine fin s2 ks2 (Moved.trans W.gtrans ((hm.mono sub).then_heap (zBh _) fun b o hb e=>?_) hm2) g3 m3 l3
   rw[sb.2 b (fun z:b=S=>hb (by rw[z]; exact zAo))]; exact e
end
section
variable {prog:Program} {w:World} {A:Around} {E:Value->Shared->Prop} {s:Shared}
theorem O7 {h:Heap} {a:Addr} (ho:h.get? a=some (Hc w)):GSet (strKind prog w) h a []:=by
 refine⟨_,#[],0,_,ho,⟨rfl,rfl,rfl⟩,rfl,.nil,zCf,by decide,rfl,?_⟩;exact Ou (w.params.followText "set-order")
theorem set_of_strs {l:Addr} {items:Array Value} {ns:List Str} {Q:Value->Shared->Prop} (hh:A.handled=none) (hl:s.heap.IsList l items) (hi:∀ (i:Nat) (v:Value),items[i]?=some v->∃ t,v = .str (ns.getD i Str.empty) t) (ln:items.size=ns.length) (hb:items.size+1<scanBound)
  (h:∀ (h':Heap) (tk:Nat) (ks:List Str),GSet (strKind prog w) h' s.heap.objs.size ks->(∀ y,y∈ks↔y∈ns)->ks.length<=items.size->(∀ b o,s.heap.get? b=some o->h'.get? b=some o)->Q (.ref s.heap.objs.size) { s with heap:=h',toks:=tk }) :
  wpAny (model prog w) A (call (.type "set") [.ref l]) Q E s:=by
 obtain⟨c,tl,hmro⟩:=F.called_set.mro;have hmade:=F.called_set.made;have hsub:=F.called_set.sub;have h1:=F.called_set.notType;have h2:=F.called_set.canCreate;have hct:=F.typeCall_set_1 (.ref l);refine wpAny_call (codeAny_of_tree (show wpAny _ _ (callAny (.type "set") _) _ _ _ from ?_));refine zCu ⟨Code.quiet_builtin _ (by ac_nf),codeAny_builtin F.entry_type_call ?_⟩;rw[Around.under_plain (weight_type_call_type "set" [.ref l] []) rfl]
 repeat (any_goals (first | assumption | wp_step))
 refine codeAny_mono (C7 (x:=.ref l) (E:=E) (Q:=fun v s₁ => v = .ref s.heap.objs.size/\s₁ = { s with heap:=s.heap.push (Hc w) }) ⟨rfl,rfl⟩) fun r s₁ hr=>?_;cases r with
 | error e=>exact hr
 | ok fl=>
  cases fl with
  | ret obj=>
   obtain⟨rfl,rfl⟩:=hr;have at0:(s.heap.push (Hc w)).get? s.heap.objs.size=some (Hc w):=zAt _ rfl;have hT:Shared.TypeIs { s with heap:=s.heap.push (Hc w) } (.ref s.heap.objs.size) "set" := ⟨_,at0,rfl⟩;have hli:=F.called_set.init.lookup;have hbi:=F.called_set.init.bind (.ref s.heap.objs.size)
   repeat (any_goals (first | assumption | wp_step))
   refine codeAny_mono (codeAny_call_builtin (R:=wants (fun r s₂ => r = .none/\∃ h' tk ks,s₂ = { s with heap:=h',toks:=tk }/\GSet (strKind prog w) h' s.heap.objs.size ks/\(∀ y,y∈ks↔y∈ns)/\ks.length<=items.size/\(∀ b o,s.heap.get? b=some o->h'.get? b=some o)) E)
    F.called_set.init.plain F.entry_set_init (check_set_init_1 hT ?_)) fun r₂ s₂ hr₂ => ?_
   ·obtain⟨⟨oc,od,odt,osl⟩,hol,hcl,nl,hdl⟩:=id hl
    simp only at hcl hdl;subst hcl hdl;have old:(s.heap.push (Hc w)).get? l=some { cls:=.type "list",dict:=od,data:=.seq items nl,slots:=osl }:=zAc _ hol;have il:(s.heap.push (Hc w)).IsList l items:=⟨_,old,rfl,nl,rfl⟩;have lt:l<s.heap.objs.size:=zAh hol;have u1:=F.sub_list_set;have u2:=F.sub_list_frozenset;have u3:(Value.type "list" == Value.type "dict")=false:=by decide
    unfold Builtin.«set.__init__» noKeywords Builtin.Frozenset.updateFrom;generalize hPI:pyIter=PI
    wp_walk
    subst hPI;refine wpAny_pyIter_list il (zCt (wpAny_runValue ?_));have sz:(s.heap.push (Hc w)).objs.size=s.heap.objs.size+1:=zBm ..;have ne:l≠(s.heap.push (Hc w)).objs.size:=by rw[sz]; exact zAm (zAU lt)
    have h3:A.in1.in1.in1.handled=none:=by simp [hh]
    have nf:s.heap.objs.size∉[(s.heap.push (Hc w)).objs.size,l]:=by
     rw[sz];intro z;rcases zAp.mp z with z | z
     ·exact absurd z (zAm (zBs _))
     ·exact absurd (zAg.mp z) (zAF lt)
    have hv:∀ (i:Nat) (v:Value),items[i]?=some v->∃ t,v = .str ((fun i=>ns.getD i Str.empty) i) t:=hi;refine Ud ((Walks.list h3 _ l ne items).toS) s.heap.objs.size nf (fun i=>ns.getD i Str.empty) hv hb (items.size-0) 0 _ [] (by lia) (zAk _) ⟨⟨_,zAt _ rfl,rfl,rfl⟩,il.push _⟩ (O7 (zAc _ at0)) (fun y=>⟨fun z=>(nomatch z),fun ⟨j,z,_⟩=>absurd z (zBp _)⟩) (zAk _) fun s' ks hm g m ln'=>?_;obtain⟨h',g',d',tk',os'⟩:=s';have eg:g'=s.gens:=hm.gens;have ed:d'=s.drawn:=hm.drawn;have eo:os'=s.os:=hm.os;subst eg ed eo;refine zCu (zCu ⟨rfl,h',tk',ks,rfl,g,fun y=>?_,ln',fun b o e=>?_⟩)
    ·rw[m y]
     constructor
     ·rintro ⟨j,z1,z2⟩
      rw[<- z2];show ns.getD j Str.empty∈ns;rw[zAI,zAn (by lia)];exact zBj _
     ·intro z
      obtain⟨j,hj,e⟩:=zBq z;refine⟨j,by lia,?_⟩;show ns.getD j Str.empty=y;rw[zAI,zAn hj];exact e
    ·refine hm.heap b o (fun z=>?_) (zAc _ (zAc _ e))
     have lb:=zAh e;rcases zAp.mp z with z | z
     ·exact absurd z (zAm lb)
     ·exact absurd (zAg.mp z) (by rw[sz]; exact zAm (zAU lb))
   ·cases r₂ with
    | error e=>exact hr₂
    | ok fl₂ =>
     cases fl₂ with
     | ret r=>
      obtain⟨rfl,h',tk,ks,rfl,g,m,ln,k⟩:=hr₂
      repeat (any_goals (first | assumption | wp_step))
      exact h _ _ ks g m ln k
     | _=>exact hr₂.elim
  | _=>exact hr.elim
end
end CST
namespace L2
open PySem PySem.Spec PyProof PyProof.Rows
section
variable {α:Type} [DecidableEq α]
theorem Lm:∀ {ks ss:List α},ks.Nodup->(∀ y∈ks,y∈ss)->ks.length<=ss.length
 | [],_,_,_=>zAk _
 | k::ks,ss,nd,h=>by
  rw[zBo] at nd;have hk:=h k zAo;have ih:=Lm (ks:=ks) (ss:=ss.erase k) nd.2 fun y hy=>(List.mem_erase_of_ne (fun z=>nd.1 (by rw[<- z]; exact hy))).mpr (h y (zAs _ hy));rw[zCe hk] at ih;have:0<ss.length:=zCl hk;rw[zAl]
  lia
theorem Xh:∀ {ss:List α},¬ ss.Nodup->∃ x,x∈ss/\x∈ss.erase x
 | [],h=>absurd zCf h
 | y::t,h=>by
  by_cases c:y∈t
  ·exact⟨y,zAo,by rw[List.erase_cons_head]; exact c⟩
  ·obtain⟨x,h1,h2⟩:=Xh (ss:=t) (fun z=>h (zBo.mpr ⟨c,z⟩))
   have ne:¬ (y==x)=true:=fun z=>c (by rw[beq_iff_eq.mp z]; exact h1);exact⟨x,zAs _ h1,by rw[List.erase_cons_tail ne]; exact zAs _ h2⟩
theorem R6 {ks ss:List α} (nd:ks.Nodup) (m:∀ y,y∈ks↔y∈ss):(ss.Nodup->ks.length=ss.length)/\(¬ ss.Nodup->ks.length<ss.length):=by
 refine⟨fun h=>Nat.le_antisymm (Lm nd fun y hy=>(m y).mp hy) (Lm h fun y hy=>(m y).mpr hy),fun h=>?_⟩;obtain⟨x,h1,h2⟩:=Xh h;have:=Lm (ss:=ss.erase x) nd fun y hy=>by
  by_cases c:y=x
  ·rw[c]; exact h2
  ·exact (List.mem_erase_of_ne c).mpr ((m y).mp hy)
 rw[zCe h1] at this;have:0<ss.length:=zCl h1
 lia
end
theorem strs_at:∀ {ss:List Str} {us:List Value},Vals (ss.map V.str) us->∀ (i:Nat) (v:Value),us[i]?=some v->∃ t,v = .str (ss.getD i Str.empty) t
 | [],_,.nil,i,v,e=>by simp at e
 | _::_,_::_,.cons r _,0,v,e=>by
  simp at e;subst e;obtain⟨t,rfl⟩:=r;exact⟨t,rfl⟩
 | _::ss,_::us,.cons _ q,i+1,v,e=>by
  obtain⟨t,rfl⟩:=strs_at q i v (by simpa using e);exact⟨t,by simp⟩
def AN (K:zAa) (te:TE):TE:=fun σ H Q=>te σ H fun x H1=>∃ a ss,x = .ref a/\SqL K H1 a (List.map V.str ss)/\ss.length<60/\∀ n:Nat,(ss.Nodup->n=ss.length)->(¬ ss.Nodup->n<ss.length)->Q (.int (n:Int)) H1
section
variable {X:Cx}
theorem M8 {e:Expr} {te:TE} {p1 p2 pos1 pos2:Pos} (he:PE X e te) (hc:X.calm=true) (hg1:Gl X "len") (hm1:X.mg "len" = none) (hg2:Gl X "set") (hm2:X.mg "set" = none)
  (hv1:zCw "len" = some (.builtin "len"):=by rfl) (hv2:zCw "set" = some (.type "set"):=by rfl)
  (hs1:starEach [.Call (.Name "set" p2) [e] [] pos2] X.env=[(false,eval (.Call (.Name "set" p2) [e] [] pos2) X.env)]:=by rfl) (hs2:starEach [e] X.env=[(false,eval e X.env)]:=by rfl) :
  PE X (.Call (.Name "len" p1) [.Call (.Name "set" p2) [e] [] pos2] [] pos1) (AN X.K te):=by
 intro pins s σ H Q I h;refine wpAny_Call_Name_kw (Dm I hg1 hm1 hv1 ?_ (by decide) (by decide));refine PyProof.Rows.callWith_builtin1 ?_ hs1 rfl;rw[hs1];show wpAny _ _ (spliced ((false,eval (.Call (.Name "set" p2) [e] [] pos2) X.env)::backTo pos1 [])) _ _ s;refine Calls.spliced_cons ?_;refine wpAny_Call_Name_kw (Dm I hg2 hm2 hv2 ?_ (by decide) (by decide));refine PyProof.Rows.callWith_type1 ?_ hs2 rfl;rw[hs2];show wpAny _ _ (spliced ((false,eval e X.env)::backTo pos2 [])) _ _ s;refine Calls.spliced_cons (Ca (he pins s σ H _ I h) fun u s1 ⟨x,H1,I1,r1,a,ss,ex,hq,l60,q⟩=>?_);subst ex;cases r1;refine Calls.spliced_nil ?_;obtain⟨its,rv,pl,hz⟩:=I1.list hq;have hl:=rv.length;rw[zAb] at hl;have hh:X.A.handled=none:=I.ok.hd hc;have hv:∀ (i:Nat) (v:Value),its.toArray[i]?=some v->∃ t,v = .str (ss.getD i Str.empty) t:=fun i v e=>by
  rw[zBF] at e;exact strs_at rv i v e
 refine CST.set_of_strs (items:=its.toArray) (ns:=ss) hh pl.isList hv (by rw[zAd]; exact hl.symm) (by rw[zAd]; unfold scanBound; lia) fun h2 tk ks g mem len k2=>?_;refine Calls.spliced_nil ?_;rw[zAd] at len;obtain⟨o,es,ep,t,ho,hex,hd,hp,nd,hsz,hf,_⟩:=g;obtain⟨z1,z2⟩:=R6 nd mem;have le:es.size=ks.length:=by rw[<- zAw]; exact hp.length
 refine call_len_set (s:={ s1 with heap:=h2,toks:=tk }) ho hex hd hf (by lia) ?_;exact⟨.int (ks.length:Int),H1,I1.kept (h':=h2) k2,⟨_,by rw[le]⟩,q ks.length z1 z2⟩
end
end L2
namespace L2
open PySem PySem.Spec PyProof.Rows PySem.W
section
variable {prog:Program} {w:World} {A:Around} {E:Value->Shared->Prop} {s:Shared}
def F6:Value->Prop
 | .int _ _=>True
 | .str _ _=>True
 | _=>False
theorem Wf {Q:Bool->Shared->Prop}:∀ {xs:List Value} (i:Nat),(∀ v∈xs,F6 v)->Q false s->KatLex prog w A true false Q (xs.zip xs) i s
 | [],i,_,h=>kat_nil h
 | v::xs,i,p,h=>by
  have ih:=Wf (xs:=xs) (i+1) (fun u hu=>p u (zAs _ hu)) h;have pv:=p v zAo;rw[List.zip_cons_cons];cases v with
  | int n t=>
   refine kat_cons (wpAny_eqBool_int ?_);rw[beq_self_eq_true];exact kat_yes ih
  | str n t=>
   refine kat_cons (wpAny_eqBool_str ?_);rw[decide_eq_true rfl];exact kat_yes ih
  | _=>exact pv.elim
def TupW (h:Heap):List Value->List Int->Prop
 | [],[]=>True
 | v::vs,r::rs=>(∃ (t:Addr) (u:Tok) (more:List Value),v = .ref t/\IsTup h t (Value.int r u::more).toArray/\∀ z∈more,F6 z)/\TupW h vs rs
 | _,_=>False
theorem TupW.keep {h h':Heap} (kp:∀ b o,h.get? b=some o->h'.get? b=some o):∀ {vs:List Value} {rs:List Int},TupW h vs rs->TupW h' vs rs
 | [],[],_=>trivial
 | [],_::_,z=>z.elim
 | _::_,[],z=>z.elim
 | v::vs,r::rs,⟨⟨t,u,m,e,⟨o,ho,hc⟩,z⟩,q⟩=>⟨⟨t,u,m,e,⟨o,kp _ _ ho,hc⟩,z⟩,q.keep kp⟩
theorem TupW.at {h:Heap}:∀ {vs:List Value} {rs:List Int} {i:Nat},TupW h vs rs->i<vs.length->∃ (t:Addr) (u:Tok) (more:List Value),vs.getD i Value.none = .ref t/\IsTup h t (Value.int (rs.getD i 0) u::more).toArray/\∀ z∈more,F6 z
 | [],[],_,_,z=>by simp at z
 | [],_::_,_,z,_=>z.elim
 | _::_,[],_,z,_=>z.elim
 | v::vs,r::rs,0,⟨⟨t,u,m,e,z⟩,q⟩,_=>⟨t,u,m,e,z⟩
 | v::vs,r::rs,i+1,⟨_,q⟩,l=>q.at (i:=i) (by simpa using l)
theorem TupW.len {h:Heap}:∀ {vs:List Value} {rs:List Int},TupW h vs rs->vs.length=rs.length
 | [],[],_=>rfl
 | [],_::_,z=>z.elim
 | _::_,[],z=>z.elim
 | v::vs,r::rs,z=>by rw[zAl,zAl,z.2.len]
theorem TupW.firsts {h:Heap}:∀ {vs:List Value} {rs:List Int},TupW h vs rs->∃ fs:List Value,KatTups h vs fs/\fs.length=vs.length/\∀ v∈fs,∃ (n:Int) (t:Tok),v = .int n t
 | [],[],_=>⟨[],trivial,rfl,fun _ z=>nomatch z⟩
 | [],_::_,z=>z.elim
 | _::_,[],z=>z.elim
 | v::vs,r::rs,⟨⟨t,u,m,e,⟨o,ho,hc,n,hd⟩,pm⟩,q⟩=>by
  obtain⟨fs,h1,h2,h3⟩:=q.firsts;refine⟨.int r u::fs,⟨⟨t,o,_,n,e,ho,hc,hd,by simp⟩,h1⟩,by rw[zAl,zAl,h2],fun y hy=>?_⟩;rcases zAp.mp hy with z | z
  ·exact⟨r,u,z⟩
  ·exact h3 y z
theorem BR {rs:List Int} (nd:rs.Nodup) {i j:Nat} (hi:i<rs.length) (hj:j<rs.length) (e:rs.getD i 0=rs.getD j 0):i=j:=by
 rw[zAI,zAI,zAn hi,zAn hj] at e;have e':rs[i]=rs[j]:=e;rcases zBN i j with c | c | c
 ·exact absurd e' ((zBI.mp nd) i j hi hj c)
 ·exact c
 ·exact absurd e'.symm ((zBI.mp nd) j i hj hi c)
theorem Wr {vs:List Value} {rs:List Int} (T:TupW s.heap vs rs) (nd:rs.Nodup) (two:2<=vs.length):S5 prog w A vs LexO (fun i=>[rs.getD i 0]) s:=by
 obtain⟨fs,h1,h2,h3⟩:=T.firsts;have lr:=T.len;refine⟨tuples' (Value.type "int" != Value.type "tuple"),fun Q E q=>kat_kind h1 (by lia) (fun v hv=>?_) rfl q,fun i j hi hj C hC=>?_⟩
 ·obtain⟨n,t,rfl⟩:=h3 v hv
  exact Sc n t
 ·have nb:(Value.type "int" != Value.type "tuple")=true:=by ac_nf
  rw[nb];obtain⟨t,u,m,e,⟨o,ho,hc,n,hd⟩,pm⟩:=T.at hi;by_cases c:i=j
  ·subst c
   rw[e];refine kat_lt ho hd ho hd ?_;rw[decide_eq_false (zBk _)];rw[show LexO.blt [rs.getD i 0] [rs.getD i 0]=false from Kj _] at hC;refine Wf 0 (fun z hz=>?_) hC;rcases zAp.mp hz with y | y
   ·rw[y]; trivial
   ·exact pm z y
  ·obtain⟨t',u',m',e',⟨o',ho',hc',n',hd'⟩,pm'⟩:=T.at hj
   have ne:¬ rs.getD i 0=rs.getD j 0:=fun z=>c (BR nd (by lia) (by lia) z);rw[e,e'];refine kat_lt ho hd ho' hd' ?_;show KatLex prog w A true _ C ((Value.int (rs.getD i 0) u::m).zip (Value.int (rs.getD j 0) u'::m')) 0 s;rw[List.zip_cons_cons];refine kat_cons (wpAny_eqBool_int ?_);rw[show (rs.getD i 0==rs.getD j 0)=false by simpa using ne];refine kat_no (oneLt_int ?_);have eb:LexO.blt [rs.getD i 0] [rs.getD j 0]=decide (rs.getD i 0<rs.getD j 0):=by
    show HT.lexLt [rs.getD i 0] [rs.getD j 0]=_;rw[HT.lexLt_cons,if_neg ne]
   rw[eb] at hC;exact hC
end
def W2:V->Bool
 | .int _=>true
 | .str _=>true
 | _=>false
def TupF (K:zAa) (H:Hp):List V->List Int->Prop
 | [],[]=>True
 | y::ys,r::rs=>(∃ t more,y = .ref t/\SqT K H t (.int r::more)/\more.all W2=true)/\TupF K H ys rs
 | _,_=>False
theorem Ps:∀ {ms:List V} {us:List Value},ms.all W2=true->Vals ms us->∀ z∈us,F6 z
 | _,_,_,.nil,_,h=>nomatch h
 | x::ms,u::us,a,.cons r q,z,h=>by
  rw[List.all_cons,zBt] at a;rcases zAp.mp h with e | e
  ·subst e
   cases x with
   | int n=>obtain⟨t,rfl⟩:=r; trivial
   | str n=>obtain⟨t,rfl⟩:=r; trivial
   | _=>exact absurd a.1 zAr
  ·exact Ps a.2 q z e
section
variable {X:Cx}
theorem TupF.vals {pins:List (Addr×Obj)} {σ:St} {H:Hp} {s:Shared} (I:Inv X pins σ H s):∀ {ys:List V} {rs:List Int} {us:List Value},TupF X.K H ys rs->Vals ys us->TupW s.heap us rs
 | [],[],_,_,.nil=>trivial
 | [],_::_,_,z,_=>z.elim
 | _::_,[],_,z,_=>z.elim
 | y::ys,r::rs,_,⟨⟨t,m,e,h,pm⟩,q⟩,.cons rv rr=>by
  subst e;cases rv;obtain⟨its,rv',p,_⟩:=I.tuple h;cases rv' with
  | cons r1 r2=>
   obtain⟨u,rfl⟩:=r1;exact⟨⟨t,u,_,rfl,p,Ps pm r2⟩,q.vals I rr⟩
def EG (K:zAa):List V->Hp->VK->Prop:=fun xs H Q=>∃ a ys rs,xs=[.ref a]/\SqL K H a ys/\ys.length<64/\TupF K H ys rs/\rs.Nodup /\
 ∀ (l:Addr) (p:Array Nat),H l=none->CRS.Pm ys.length p->CRS.Up (O:=LexO) (fun i=>[rs.getD i 0]) p ys.length->Q (.ref l) (upd H l (.lst (p.toList.map fun i=>ys.getD i .non)))
theorem Vk:Fk X (.builtin "sorted") (EG X.K):=by
 intro pins s σ H xs us Q I r h;obtain⟨a,ys,rs,rfl,hq,l64,T,nd,q⟩:=h;obtain⟨u,rfl,rx⟩:=Ia r;cases rx;obtain⟨its,rv,pl,hz⟩:=I.list hq;have hl:=rv.length;have TV:=T.vals I rv;refine Tf (O:=LexO) (key:=fun i=>[rs.getD i 0]) pl.isList (by lia) (fun A' h' kp two=>Wr (s:={ s with heap:=h' }) (TV.keep kp) nd two) fun p hp hu=>?_;obtain⟨e,he⟩:=sortedAll_at s.heap its (Fz its p).toArray;have lp:(p.toList.map fun i=>ys.getD i .non).length<=sizeLine:=by
  rw[zAb,zAw,hp.size]
  lia
 rw[<- hl] at hp hu;exact⟨.ref (s.heap.objs.size+1),_,I.laid (t':=s.toks) (fun b o q=>sortedAll_old q) (zBh _) (show ObjOk X.prog X.w _ _ _ (.lst _) from ⟨lp,Fz its p,e,La rv _,he⟩),rfl,q _ p (I.hok.fresh (zBh _)) hp hu⟩
end
end L2
namespace L2
open PySem PySem.Spec PyProof.Rows
section
variable {α:Type} {f:α->List V}
end
section
variable {prog:Program} {w:World} {A:Around} {E:Value->Shared->Prop} {s:Shared} {d v it:Addr} {ob:Obj} {es:Array DictEntry} {ep:Nat}
end
section
variable {X:Cx} {pins:List (Addr×Obj)} {σ:St} {H:Hp} {s:Shared} {a:Addr} {u u':HO} {ob:Obj}
end
structure DfIn (K:zAa) (x:Str) (st:Stmt) (f:Addr):Prop where
 ns:zAx K zCy x=some (some (.ref f))
 ex:∃ (od an:Option Addr) (sl:Array (Option Value)) (oc kV dc pm cd ct:Value),K.lookup f=some ⟨oc,od,.func (zAV x x (Cy st) (Ce st) (Ar st) .none kV dc pm an cd ct),sl⟩/\zBn K cd x=true
 kp:zAT K (.ref f)=true
structure MtIn (K:zAa) (x qual:Str) (st:Stmt) (f:Addr):Prop where
 fn:zCb K (.ref f)=true
 ex:∃ (od an:Option Addr) (sl:Array (Option Value)) (oc kV dc pm cd ct:Value),K.lookup f=some ⟨oc,od,.func (zAV x qual (Cy st) (Ce st) (Ar st) .none kV dc pm an cd ct),sl⟩/\zBn K cd qual=true
 kp:zAT K (.ref f)=true
structure ClIn (K:zAa) (x:Str) (C:Addr):Prop where
 ns:zAx K zCy x=some (some (.ref C))
 pg:zBS K C Str.empty=true
 hd:zBy K C=true
 po:PySem.W.plainOver K C=true
 sa:zAe K (.ref C) "__setattr__" = some (some (.builtin "object.__setattr__"))
 mi:zBY K C=true
 kp:zAT K (.ref C)=true
theorem ClIn.cl {K:zAa} {x:Str} {C:Addr} (c:ClIn K x C):Cls K C:=⟨c.pg,c.hd,c.po,c.sa⟩
section
variable {K:zAa} {h:Heap} {mg:Str->Option Value} {x qual:Str} {st:Stmt} {f:Addr} {ps:List Str}
theorem DfIn.df (d:DfIn K x st f) (X:K.In h) (G:h.Ns zCy mg)
  (hb:∀ (kV dc pm:Value) (an:Option Addr) (cd ct:Value) (us:List Value),us.length=ps.length->bindArgs (zAV x x (Cy st) (Ce st) (Ar st) .none kV dc pm an cd ct) ⟨us,[]⟩=pure (ps.zip us)):Def K mg x st ps:=by
 obtain⟨od,an,sl,oc,kV,dc,pm,cd,ct,l,c⟩:=d.ex;have F:=Zy (x:=x) (qual:=x) (st:=st) l c d.kp;exact⟨f,_,F,F.binds hb,zAv X G d.ns⟩
theorem MtIn.get (d:MtIn K x qual st f)
  (hb:∀ (kV dc pm:Value) (an:Option Addr) (cd ct:Value) (us:List Value),us.length=ps.length->bindArgs (zAV x qual (Cy st) (Ce st) (Ar st) .none kV dc pm an cd ct) ⟨us,[]⟩=pure (ps.zip us)):∃ fd,Fun K x qual st f fd/\Binds K fd ps []:=by
 obtain⟨od,an,sl,oc,kV,dc,pm,cd,ct,l,c⟩:=d.ex;have F:=Zy (x:=x) (qual:=qual) (st:=st) l c d.kp;exact⟨_,F,F.binds hb⟩
end
section
variable {Pr:List Value->Prop}
theorem Qx (h:∀ a,Pr [a]):∀ us,us.length=1->Pr us
 | [a],_=>h a
theorem Nj (h:∀ a b,Pr [a,b]):∀ us,us.length=2->Pr us
 | [a,b],_=>h a b
theorem X0 (h:∀ a b c,Pr [a,b,c]):∀ us,us.length=3->Pr us
 | [a,b,c],_=>h a b c
theorem FU (h:∀ a b c d,Pr [a,b,c,d]):∀ us,us.length=4->Pr us
 | [a,b,c,d],_=>h a b c d
end
theorem vE {α β:Type} {f:α->β} {y:β} {v:α} {R:α->Prop} (e:y=f v) (h:R v):∃ x,y=f x/\R x:=⟨v,e,h⟩
theorem DfIn.of {K:zAa} {x:Str} {st:Stmt} {f:Addr} {od an:Option Addr} {sl:Array (Option Value)} {oc kV dc pm cd ct:Value} (n:zAx K zCy x=some (some (.ref f))) (l:K.lookup f=some ⟨oc,od,.func (zAV x x (Cy st) (Ce st) (Ar st) .none kV dc pm an cd ct),sl⟩) (c:zBn K cd x=true) (k:zAT K (.ref f)=true):DfIn K x st f:=⟨n,⟨od,an,sl,oc,kV,dc,pm,cd,ct,l,c⟩,k⟩
theorem MtIn.of {K:zAa} {x qual:Str} {st:Stmt} {f:Addr} {od an:Option Addr} {sl:Array (Option Value)} {oc kV dc pm cd ct:Value} (n:zCb K (.ref f)=true) (l:K.lookup f=some ⟨oc,od,.func (zAV x qual (Cy st) (Ce st) (Ar st) .none kV dc pm an cd ct),sl⟩) (c:zBn K cd qual=true) (k:zAT K (.ref f)=true):MtIn K x qual st f:=⟨n,⟨od,an,sl,oc,kV,dc,pm,cd,ct,l,c⟩,k⟩
theorem vF {α β γ δ:Type} {f:α->β} {g : γ -> δ} {x:β} {y:δ} {a:α} {b : γ} {R:α -> γ -> Prop} (e:x=f a) (e':y=g b) (h:R a b):∃ i j,x=f i/\y=g j/\R i j:=⟨a,b,e,e',h⟩
theorem vI {x y:V} {A:Addr->List V->Prop} {B:List V->Int->V->Prop} {R:V->Prop} {p:Addr} {xs:List V} {i:Int} {v:V} (e:x = .ref p) (e':y = .int i) (a:A p xs) (b:B xs i v) (h:R v):∃ p xs i v,x = .ref p/\y = .int i/\A p xs/\B xs i v/\R v:=⟨p,xs,i,v,e,e',a,b,h⟩
theorem vC {α:Type} {l:List α} {a:α} {t:List α} {R:α->List α->Prop} (e:l=a::t) (h:R a t):∃ v r,l=v::r/\R v r:=⟨a,t,e,h⟩
end L2
namespace CST
open PySem PyProof.Rows
section
variable {prog:Program} {w:World} {A:Around} {E:Value->Shared->Prop} {s:Shared}
theorem Nl:∀ {l:List (Int×Value)} {ks:List Str},Paired (CH (PySem.strKind prog w)) l ks->StrsAre (l.map (·.2)) ks
 | _,_,.nil=>.nil
 | e::l,k::ks,.cons r t=>by
  obtain⟨tk,h⟩:=Value.isStrOf_shape r.1;rw[zBa,h];exact .cons k tk (Nl t)
theorem I0:∀ {vs us:List Value},vs.Perm us->∀ {ns:List Str},StrsAre us ns->∃ ms:List Str,StrsAre vs ms/\ms.Perm ns:=by
 intro vs us p;have q:=p.symm;clear p
 induction q with
 | nil=>intro ns h; exact⟨ns,h,List.Perm.refl _⟩
 | cons x _ ih=>
  intro ns h;cases h with
  | cons n t r=>
   obtain⟨ms,h1,h2⟩:=ih r;exact⟨n::ms,.cons n t h1,h2.cons n⟩
 | swap x y l=>
  intro ns h;cases h with
  | cons n t r=>
   cases r with
   | cons m u r2=>exact⟨_,.cons m u (.cons n t r2),List.Perm.swap _ _ _⟩
 | trans _ _ ih1 ih2=>
  intro ns h;obtain⟨m1,h1,p1⟩:=ih1 h;obtain⟨m2,h2,p2⟩:=ih2 h1;exact⟨m2,h2,p2.trans p1⟩
theorem sorted_setS {a:Addr} {ks:List Str} {Q:Value->Shared->Prop} (hh:A.handled=none) (g:GSet (PySem.strKind prog w) s.heap a ks) (h64:ks.length<64)
  (h:∀ (s':Shared) (l:Addr) (out:Array Value) (ms:List Str) (e:Nat),StrsAre out.toList ms->ms.Perm ks->sortedS ms=true->(∀ b o,s.heap.get? b=some o->s'.heap.get? b=some o)->a<l->s'.heap.get? l=some (seqObj "list" out e)->s'.gens=s.gens->s'.os=s.os->Q (.ref l) s') :
  wpAny (model prog w) A (call (.builtin "sorted") [.ref a]) Q E s:=by
 obtain⟨o,es,ep,t,ho,hex,hd,hp,nd,hb,hf,gd⟩:=g;have lk:es.size=ks.length:=by rw[<- zAw]; exact Paired.length hp
 have line:es.size<=sizeLine:=by rw[zCv]; lia
 refine Calls.call_function_entry kind_sorted plain_sorted entry_sorted (args_sorted1 _) ?_;unfold Builtin.«sorted»;refine zCt (m:=checkCount "sorted" 1 1 _) (zCu (zCt (Nk (by exact hh) hex.1 ho hd hf gd line fun s' vs pm k eg eo=>?_)));have lv:vs.length=ks.length:=by rw[pm.length_eq,zAb,zAw,lk]
 obtain⟨ms,im,mp⟩:=I0 pm (Nl hp);refine zCt (wpAny_newList ?_ (by rw[lv,<- lk]; exact line));have at1:(s'.heap.push (seqObj "list" vs.toArray 0)).get? s'.heap.objs.size=some (seqObj "list" vs.toArray 0):=zAt _ rfl;refine zCt (wpAny_holding (wpAny_call_entry slot_list_sort ⟨_,at1,rfl⟩ entry_list_sort (list_sort_treeK (s:={ s' with heap:=s'.heap.push (seqObj "list" vs.toArray 0) }) strKind_oneLt at1 im.keysOf (fun v₁ v₂ rest e=>keyKind_strs (by rw[<- e]; exact im)) (by lia) fun st' hq hs=>⟨_,rfl,?_⟩) (args_list_sort _)));obtain⟨ns',a1,a2,a3⟩:=sorted_out_str im hq hs;refine zCu ⟨_,rfl,?_⟩;generalize (arrOf st').map (·.2)=out at a1;obtain⟨e,he⟩:=sortedHeap_at (out:=out) at1;have lt:∀ b ob,s.heap.get? b=some ob->b<s'.heap.objs.size:=fun b ob z=>zAh (k b ob z);refine h _ s'.heap.objs.size out ns' e a1 (a2.trans mp) a3 (fun b ob z=>?_) ?_ he eg eo
 ·show (sortedHeap _ _ _ _).get? b=_
  rw[sortedHeap_old (zAm (lt b ob z)) (by rw[size_push']; exact zAU (lt b ob z))];exact zAc _ (k b ob z)
 ·exact lt a o ho
end
end CST
namespace L2
open PySem PySem.Spec PyProof.Rows PySem.W
theorem Mb:∀ {us:List Value} {ns:List Str},StrsAre us ns->Vals (ns.map V.str) us
 | _,_,.nil=>.nil
 | _,_,.cons n t r=>.cons ⟨t,rfl⟩ (Mb r)
theorem Yn {us:List Value} {ns:List Str} (r:Vals (ns.map V.str) us):∀ (i:Nat) (v:Value),us.toArray[i]?=some v->∃ t,v = .str (ns.getD i Str.empty) t:=fun i v e=>by
 rw[zBF] at e;have il:i<ns.length:=by
  have:=(zAj.mp e).1;have l:=r.length;rw[zAb] at l
  lia
 obtain⟨w',hw,rw'⟩:=r.get (i:=i) (x:=V.str ns[i]) (by rw[zAu,zAn il]; rfl);rw[e] at hw;cases hw;rw[zAI,zAn il];exact rw'
section
variable {X:Cx}
def K7 (K:zAa) (te:TE):TE:=fun σ H Q=>te σ H fun x H1=>∃ (a:Addr) (ns:List Str),x = .ref a/\SqL K H1 a (ns.map V.str)/\ns.length<63 /\
 ∀ (l:Addr) (ms:List Str),H1 l=none->ms.Nodup->sortedS ms=true->(∀ y,y∈ms↔y∈ns)->Q (.ref l) (upd H1 l (.lst (ms.map V.str)))
theorem CF {e:Expr} {te:TE} {p1 p2 pos1 pos2:Pos} (he:PE X e te) (hc:X.calm=true) (hg1:Gl X "sorted") (hm1:X.mg "sorted" = none) (hg2:Gl X "set") (hm2:X.mg "set" = none)
  (hv1:zCw "sorted" = some (.builtin "sorted"):=by rfl) (hv2:zCw "set" = some (.type "set"):=by rfl)
  (hs1:starEach [.Call (.Name "set" p2) [e] [] pos2] X.env=[(false,eval (.Call (.Name "set" p2) [e] [] pos2) X.env)]:=by rfl) (hs2:starEach [e] X.env=[(false,eval e X.env)]:=by rfl) :
  PE X (.Call (.Name "sorted" p1) [.Call (.Name "set" p2) [e] [] pos2] [] pos1) (K7 X.K te):=by
 intro pins s σ H Q I h;refine wpAny_Call_Name_kw (Dm I hg1 hm1 hv1 ?_ (by decide) (by decide));refine PyProof.Rows.callWith_builtin1 ?_ hs1 rfl;rw[hs1];show wpAny _ _ (spliced ((false,eval (.Call (.Name "set" p2) [e] [] pos2) X.env)::backTo pos1 [])) _ _ s;refine Calls.spliced_cons ?_;refine wpAny_Call_Name_kw (Dm I hg2 hm2 hv2 ?_ (by decide) (by decide));refine PyProof.Rows.callWith_type1 ?_ hs2 rfl;rw[hs2];show wpAny _ _ (spliced ((false,eval e X.env)::backTo pos2 [])) _ _ s;refine Calls.spliced_cons (Ca (he pins s σ H _ I h) fun u s1 ⟨x,H1,I1,r1,a,ns,ex,hq,l64,q⟩=>?_);subst ex;cases r1;refine Calls.spliced_nil ?_;obtain⟨its,rv,pl,hz⟩:=I1.list hq;have hl:=rv.length;rw[zAb] at hl;have hh:X.A.handled=none:=I.ok.hd hc;refine CST.set_of_strs (items:=its.toArray) (ns:=ns) hh pl.isList (Yn rv) (by rw[zAd]; lia) (by rw[zAd]; unfold scanBound; lia) fun h2 tk ks g mem len k2=>?_;refine Calls.spliced_nil ?_;rw[zAd] at len;refine CST.sorted_setS (s:={ s1 with heap:=h2,toks:=tk }) hh g (by lia) fun s' l out ms ee im pm pw k3 al hl' eg eo=>?_;have nd:ms.Nodup:=by
  obtain⟨_,_,_,_,_,_,_,_,nd,_⟩:=g;exact pm.nodup_iff.mpr nd
 have kk:∀ b ob,s1.heap.get? b=some ob->s'.heap.get? b=some ob:=fun b ob z=>k3 b ob (k2 b ob z);have le:s1.heap.objs.size<=l:=zBw al;have lp:(ms.map V.str).length<=sizeLine:=by rw[zAb,pm.length_eq,zCv]; lia
 have new:ObjOk X.prog X.w (upd H1 l (.lst (ms.map V.str))) s'.heap l (.lst (ms.map V.str)):=⟨lp,out.toList,ee,Mb im,hl'⟩;refine⟨.ref l,upd H1 l (.lst (ms.map V.str)),I1.call' (s':=s') (ch:=[]) eo (Un.laid kk le (I1.hok.fresh le)) (I1.hok.laid kk le new) (by rw[eg]; exact I1.bare) (fun b z=>(nomatch z)),rfl,q l ms (I1.hok.fresh le) nd pw fun y=>?_⟩;rw[pm.mem_iff];exact mem y
def L9 (K:zAa) (te:TE):TE:=fun σ H Q=>te σ H fun x H1=>
 (∃ (a:Addr) (ns:List Int),x = .ref a/\SqL K H1 a (ns.map V.int)/\ns.length<64/\∀ (l:Addr) (ms:List Int),H1 l=none->ms.Pairwise (· < ·)->(∀ y,y∈ms↔y∈ns)->Q (.ref l) (upd H1 l (.lst (ms.map V.int)))) \/
 (∃ (a:Addr) (ns:List Str),x = .ref a/\SqL K H1 a (ns.map V.str)/\ns.length<63/\∀ (l:Addr) (ms:List Str),H1 l=none->ms.Nodup->sortedS ms=true->(∀ y,y∈ms↔y∈ns)->Q (.ref l) (upd H1 l (.lst (ms.map V.str))))
theorem Wu {e:Expr} {te:TE} {p1 p2 pos1 pos2:Pos} (he:PE X e te) (hc:X.calm=true) (hg1:Gl X "sorted") (hm1:X.mg "sorted" = none) (hg2:Gl X "set") (hm2:X.mg "set" = none)
  (hv1:zCw "sorted" = some (.builtin "sorted"):=by rfl) (hv2:zCw "set" = some (.type "set"):=by rfl)
  (hs1:starEach [.Call (.Name "set" p2) [e] [] pos2] X.env=[(false,eval (.Call (.Name "set" p2) [e] [] pos2) X.env)]:=by rfl) (hs2:starEach [e] X.env=[(false,eval e X.env)]:=by rfl) :
  PE X (.Call (.Name "sorted" p1) [.Call (.Name "set" p2) [e] [] pos2] [] pos1) (L9 X.K te):=by
 intro pins s σ H Q I h;refine wpAny_Call_Name_kw (Dm I hg1 hm1 hv1 ?_ (by decide) (by decide));refine PyProof.Rows.callWith_builtin1 ?_ hs1 rfl;rw[hs1];show wpAny _ _ (spliced ((false,eval (.Call (.Name "set" p2) [e] [] pos2) X.env)::backTo pos1 [])) _ _ s;refine Calls.spliced_cons ?_;refine wpAny_Call_Name_kw (Dm I hg2 hm2 hv2 ?_ (by decide) (by decide));refine PyProof.Rows.callWith_type1 ?_ hs2 rfl;rw[hs2];show wpAny _ _ (spliced ((false,eval e X.env)::backTo pos2 [])) _ _ s;refine Calls.spliced_cons (Ca (he pins s σ H _ I h) fun u s1 ⟨x,H1,I1,r1,hAB⟩=>?_);rcases hAB with ⟨a,ns,ex,hq,l64,q⟩ | ⟨a,ns,ex,hq,l64,q⟩
 ·subst ex
  cases r1
  refine Calls.spliced_nil ?_;obtain⟨its,rv,pl,hz⟩:=I1.list hq;have hl:=rv.length;rw[zAb] at hl;have hh:X.A.handled=none:=I.ok.hd hc;refine CST.set_of_list (items:=its.toArray) (ns:=ns) hh pl.isList (Lb rv) (by rw[zAd]; unfold scanBound; lia) fun h2 tk ks g mem len k2=>?_;refine Calls.spliced_nil ?_;rw[zAd] at len;refine CST.sorted_set (s:={ s1 with heap:=h2,toks:=tk }) hh g (by lia) fun s' l out ms ee im pm pw k3 al hl' eg eo=>?_;have nd:ms.Nodup:=by
   obtain⟨_,_,_,_,_,_,_,_,nd,_⟩:=g;exact pm.nodup_iff.mpr nd
  have lt:=Iz pw nd;have kk:∀ b ob,s1.heap.get? b=some ob->s'.heap.get? b=some ob:=fun b ob z=>k3 b ob (k2 b ob z);have le:s1.heap.objs.size<=l:=zBw al;have lp:(ms.map V.int).length<=sizeLine:=by rw[zAb,pm.length_eq,zCv]; lia
  have new:ObjOk X.prog X.w (upd H1 l (.lst (ms.map V.int))) s'.heap l (.lst (ms.map V.int)):=⟨lp,out.toList,ee,Mo im,hl'⟩;refine⟨.ref l,upd H1 l (.lst (ms.map V.int)),I1.call' (s':=s') (ch:=[]) eo (Un.laid kk le (I1.hok.fresh le)) (I1.hok.laid kk le new) (by rw[eg]; exact I1.bare) (fun b z=>(nomatch z)),rfl,q l ms (I1.hok.fresh le) lt fun y=>?_⟩;rw[pm.mem_iff];exact mem y
 ·subst ex
  cases r1
  refine Calls.spliced_nil ?_;obtain⟨its,rv,pl,hz⟩:=I1.list hq;have hl:=rv.length;rw[zAb] at hl;have hh:X.A.handled=none:=I.ok.hd hc;refine CST.set_of_strs (items:=its.toArray) (ns:=ns) hh pl.isList (Yn rv) (by rw[zAd]; lia) (by rw[zAd]; unfold scanBound; lia) fun h2 tk ks g mem len k2=>?_;refine Calls.spliced_nil ?_;rw[zAd] at len;refine CST.sorted_setS (s:={ s1 with heap:=h2,toks:=tk }) hh g (by lia) fun s' l out ms ee im pm pw k3 al hl' eg eo=>?_;have nd:ms.Nodup:=by
   obtain⟨_,_,_,_,_,_,_,_,nd,_⟩:=g;exact pm.nodup_iff.mpr nd
  have kk:∀ b ob,s1.heap.get? b=some ob->s'.heap.get? b=some ob:=fun b ob z=>k3 b ob (k2 b ob z);have le:s1.heap.objs.size<=l:=zBw al;have lp:(ms.map V.str).length<=sizeLine:=by rw[zAb,pm.length_eq,zCv]; lia
  have new:ObjOk X.prog X.w (upd H1 l (.lst (ms.map V.str))) s'.heap l (.lst (ms.map V.str)):=⟨lp,out.toList,ee,Mb im,hl'⟩;refine⟨.ref l,upd H1 l (.lst (ms.map V.str)),I1.call' (s':=s') (ch:=[]) eo (Un.laid kk le (I1.hok.fresh le)) (I1.hok.laid kk le new) (by rw[eg]; exact I1.bare) (fun b z=>(nomatch z)),rfl,q l ms (I1.hok.fresh le) nd pw fun y=>?_⟩;rw[pm.mem_iff];exact mem y
theorem Xi {e:Expr}:PE X e (fun _ _ _=>False):=fun _ _ _ _ _ _ h=>h.elim
end
end L2
namespace L2
open PySem PySem.Spec PyProof.Rows
def Rv (h:Heap) (z TI TO T:Addr) (f:Bool):Prop:=
 h.get? z=some { cls:=.type "zip",dict:=none,data:=.fields #[rawInt T,.bool f,.bool false,.ref TI,.ref TO],slots := #[] }
section
variable {prog:Program} {w:World} {A:Around} {E:Value->Shared->Prop} {s:Shared}
theorem P9 {a:Addr} {o:Obj} {Q:Option Obj->Shared->Prop} (ho:s.heap.get? a=some o) (h:Q (some o) s):wpAny (model prog w) A (loadIfAlive a) Q E s:=by
 have h':Q (s.heap.get? a) s:=by rw[ho]; exact h
 exact fun _ _ _=>h'
theorem D9 {z TI TO T:Addr} {f:Bool} {oT:Obj} {Q:Bool->Shared->Prop} (hz:Rv s.heap z TI TO T f) (hT:s.heap.get? T=some oT)
  (h:∀ h',Rv h' z TI TO T true->zBc z s.heap h'->Q false { s with heap:=h' }):wpAny (model prog w) A (Builtin.SmallTypes.ownedTupleIsFree (.ref z)) Q E s:=by
 unfold Builtin.SmallTypes.ownedTupleIsFree;refine zCt (wpAny_field hz rfl (x:=rawInt T) rfl ?_);show wpAny _ _ (loadIfAlive (Int.toNat (T:Int)) >>= _) _ _ _;rw[Int.toNat_natCast];refine zCt (P9 hT ?_);simp only [Option.isNone_some,zAW,if_false];refine zCt (wpAny_field hz rfl (x:=.bool f) rfl ?_);cases f with
 | true=>
  rw[if_neg (by decide)];exact zCu (h s.heap hz (zBc.refl ..))
 | false=>
  rw[if_pos (by decide)];refine zCt (wpAny_setField_rec hz (by simp) fun h1 hz1 hs1=>zCu (h h1 hz1 hs1))
theorem BM {z TI TO i1 i2 l1 l2 T:Addr} {f:Bool} {oT:Obj} {k1 k2:Nat} {xs ys:Array Value} {x y:Value} {Q:Value->Shared->Prop} (D:ZipApart z TI TO i1 i2 l1 l2)
  (hz:Rv s.heap z TI TO T f) (hT:s.heap.get? T=some oT) (hTI:IsPair s.heap TI (.ref i1) (.ref i2))
  (h1:s.heap.IsListIter i1 l1 k1) (h2:s.heap.IsListIter i2 l2 k2) (hl1:s.heap.IsList l1 xs) (hl2:s.heap.IsList l2 ys) (hx:xs[k1]?=some x) (hy:ys[k2]?=some y)
  (hQ:∀ h',Rv h' z TI TO T true->h'.IsListIter i1 l1 (k1+1)->h'.IsListIter i2 l2 (k2+1)->IsPair h' s.heap.objs.size x y->h'.objs.size=s.heap.objs.size+1 ->
   (∀ c o,c≠z->c≠i1->c≠i2->s.heap.get? c=some o->h'.get? c=some o)->Q (.ref s.heap.objs.size) { s with heap:=h' }) :
  wpAny (model prog w) A (Builtin.«zip.__next__» ⟨[.ref z],[]⟩) (fun fin s'=>∃ v,fin = .done (.ret v)/\Q v s') E s:=by
 show wpAny _ _ (field (.ref z) 2 >>= _) _ _ _;refine zCt (wpAny_field hz rfl (x:=.bool false) rfl ?_);show wpAny _ _ (field (.ref z) 3 >>= _) _ _ _;refine zCt (wpAny_field hz rfl (x:=.ref TI) rfl ?_);refine zCt (wpAny_seqItems hTI rfl ?_);show wpAny _ _ (Builtin.SmallTypes.ownedTupleIsFree (.ref z) >>= _) _ _ _;refine zCt (D9 hz hT fun h₁ hz₁ hs₁ => ?_);simp only [zAW,if_false];refine zCt ?_;simp only [<- zCd,List.forIn_cons,List.forIn_nil];refine zCt (zCt (wpAny_holding ?_));show wpAny _ _ (Builtin.SmallTypes.nextOf (.ref i1) >>= _) _ _ _;refine zCt (wpAny_nextOf_list_item (h1.extBut hs₁.extBut D.i1z) (hl1.extBut hs₁.extBut D.l1z) hx fun h₂ h1₂ hs₂ => zCu ?_);refine zCu ?_;refine zCt (zCt (wpAny_holding ?_));show wpAny _ _ (Builtin.SmallTypes.nextOf (.ref i2) >>= _) _ _ _;refine zCt (wpAny_nextOf_list_item ((h2.extBut hs₁.extBut D.i2z).extBut hs₂.extBut D.i12.symm) ((hl2.extBut hs₁.extBut D.l2z).extBut hs₂.extBut D.l2i1) hy fun h₃ h2₃ hs₃ => zCu ?_);refine zCu (zCu ?_);refine zCt (wpAny_newTuple ?_ (hsz:=Bk (by show 2<=1000; decide)));have hsz:h₃.objs.size=s.heap.objs.size:=by rw[hs₃.1,hs₂.1,hs₁.1]
 have hz₃ : Rv h₃ z TI TO T true:=hs₃.extBut _ _ D.i2z.symm (hs₂.extBut _ _ D.i1z.symm hz₁);have h1₃ : h₃.IsListIter i1 l1 (k1+1):=h1₂.extBut hs₃.extBut D.i12;refine zCu ⟨_,rfl,?_⟩;show Q (.ref h₃.objs.size) _;rw[hsz];refine hQ _ (zAc _ hz₃) (h1₃.at fun o e=>zAc _ e) (h2₃.at fun o e=>zAc _ e) ?_ (by rw[zBm,hsz]) fun c o c1 c2 c3 e=>zAc _ (hs₃.extBut _ _ c3 (hs₂.extBut _ _ c2 (hs₁.extBut _ _ c1 e)));rw[<- hsz];exact zAt _ rfl
theorem ER {z TI TO i1 i2 l1 l2 T:Addr} {f:Bool} {oT:Obj} {k1 k2:Nat} {xs ys:Array Value} {Q:Fin->Shared->Prop} (hh:A.handled=none) (D:ZipApart z TI TO i1 i2 l1 l2)
  (hz:Rv s.heap z TI TO T f) (hT:s.heap.get? T=some oT) (hTI:IsPair s.heap TI (.ref i1) (.ref i2))
  (h1:s.heap.IsListIter i1 l1 k1) (h2:s.heap.IsListIter i2 l2 k2) (hl1:s.heap.IsList l1 xs) (hl2:s.heap.IsList l2 ys) (hend:xs[k1]?=none\/ys[k2]?=none)
  (hE:∀ h' e,(∀ c o,c≠z->c≠i1->c≠i2->s.heap.get? c=some o->h'.get? c=some o)->(∃ o,h'.get? e=some o/\o.cls = .type "StopIteration")->E (.ref e) { s with heap:=h' }) :
  wpAny (model prog w) A (Builtin.«zip.__next__» ⟨[.ref z],[]⟩) Q E s:=by
 show wpAny _ _ (field (.ref z) 2 >>= _) _ _ _;refine zCt (wpAny_field hz rfl (x:=.bool false) rfl ?_);show wpAny _ _ (field (.ref z) 3 >>= _) _ _ _;refine zCt (wpAny_field hz rfl (x:=.ref TI) rfl ?_);refine zCt (wpAny_seqItems hTI rfl ?_);show wpAny _ _ (Builtin.SmallTypes.ownedTupleIsFree (.ref z) >>= _) _ _ _;refine zCt (D9 hz hT fun h₁ hz₁ hs₁ => ?_);simp only [zAW,if_false];refine zCt ?_;simp only [<- zCd,List.forIn_cons,List.forIn_nil];refine zCt (zCt (wpAny_holding ?_));show wpAny _ _ (Builtin.SmallTypes.nextOf (.ref i1) >>= _) _ _ _;cases hx:xs[k1]? with
 | none=>
  refine zCt (wpAny_nextOf_list_end hh (h1.extBut hs₁.extBut D.i1z) (hl1.extBut hs₁.extBut D.l1z) hx fun h₂ e hs₂ he=>?_);exact hE h₂ e (fun c o c1 c2 _ x=>hs₂ _ _ c2 (hs₁.extBut _ _ c1 x)) he
 | some x=>
  have hy:ys[k2]?=none:=by rcases hend with h | h; rw[hx] at h; cases h; exact h
  refine zCt (wpAny_nextOf_list_item (h1.extBut hs₁.extBut D.i1z) (hl1.extBut hs₁.extBut D.l1z) hx fun h₂ h1₂ hs₂ => zCu ?_);refine zCu ?_;refine zCt (zCt (wpAny_holding ?_));show wpAny _ _ (Builtin.SmallTypes.nextOf (.ref i2) >>= _) _ _ _;refine zCt (wpAny_nextOf_list_end hh ((h2.extBut hs₁.extBut D.i2z).extBut hs₂.extBut D.i12.symm) ((hl2.extBut hs₁.extBut D.l2z).extBut hs₂.extBut D.l2i1) hy fun h₃ e hs₃ he=>?_);exact hE h₃ e (fun c o c1 c2 c3 x=>hs₃ _ _ c3 (hs₂.extBut _ _ c2 (hs₁.extBut _ _ c1 x))) he
theorem M6 {z TI TO i1 i2 l1 l2 T:Addr} {f:Bool} {oT:Obj} {k1 k2:Nat} {xs ys:Array Value} {x y:Value} {Q:Option Value->Shared->Prop} (D:ZipApart z TI TO i1 i2 l1 l2)
  (hz:Rv s.heap z TI TO T f) (hT:s.heap.get? T=some oT) (hTI:IsPair s.heap TI (.ref i1) (.ref i2))
  (h1:s.heap.IsListIter i1 l1 k1) (h2:s.heap.IsListIter i2 l2 k2) (hl1:s.heap.IsList l1 xs) (hl2:s.heap.IsList l2 ys) (hx:xs[k1]?=some x) (hy:ys[k2]?=some y)
  (hQ:∀ h',Rv h' z TI TO T true->h'.IsListIter i1 l1 (k1+1)->h'.IsListIter i2 l2 (k2+1)->IsPair h' s.heap.objs.size x y->h'.objs.size=s.heap.objs.size+1 ->
   (∀ c o,c≠z->c≠i1->c≠i2->s.heap.get? c=some o->h'.get? c=some o)->Q (some (.ref s.heap.objs.size)) { s with heap:=h' }) :
  wpAny (model prog w) A (pyNext (.ref z)) Q E s:=by
 have hTy:s.TypeIs (.ref z) "zip" := ⟨_,hz,rfl⟩;unfold pyNext;exact zCt (wpAny_attempt (wpAny_callSpecial?_slot (name:=Str.ofString "__next__") hTy F.slot_zip_next
  (wpAny_call_entry F.slot_zip_next hTy F.entry_zip_next
   (BM D hz hT hTI h1 h2 hl1 hl2 hx hy fun h' a1 a3 a4 a5 a6 a7=>zCu (hQ h' a1 a3 a4 a5 a6 a7)) (F.args_zip_next_1 _))))
theorem Rb {z TI TO i1 i2 l1 l2 T:Addr} {f:Bool} {oT:Obj} {k1 k2:Nat} {xs ys:Array Value} {Q:Option Value->Shared->Prop} (hh:A.handled=none) (D:ZipApart z TI TO i1 i2 l1 l2)
  (hz:Rv s.heap z TI TO T f) (hT:s.heap.get? T=some oT) (hTI:IsPair s.heap TI (.ref i1) (.ref i2))
  (h1:s.heap.IsListIter i1 l1 k1) (h2:s.heap.IsListIter i2 l2 k2) (hl1:s.heap.IsList l1 xs) (hl2:s.heap.IsList l2 ys) (hend:xs[k1]?=none\/ys[k2]?=none)
  (hQ:∀ h',(∀ c o,c≠z->c≠i1->c≠i2->s.heap.get? c=some o->h'.get? c=some o)->Q none { s with heap:=h' }):wpAny (model prog w) A (pyNext (.ref z)) Q E s:=by
 have hTy:s.TypeIs (.ref z) "zip" := ⟨_,hz,rfl⟩;unfold pyNext;refine zCt (wpAny_attempt (wpAny_callSpecial?_slot (name:=Str.ofString "__next__") hTy F.slot_zip_next
  (wpAny_call_entry F.slot_zip_next hTy F.entry_zip_next (ER hh D hz hT hTI h1 h2 hl1 hl2 hend fun h' e hk he=>?_) (F.args_zip_next_1 _))))
 obtain⟨o,ho,hc⟩:=he;refine zCt (wpAny_isInstance (T := "StopIteration") (b:=true) ⟨o,ho,hc⟩ isSubtype_stop ?_);exact zCu (hQ _ hk)
def ZS (z TI TO i1 i2 l1 l2:Addr) (xs ys:Array Value) (i:Nat) (h:Heap):Prop:=
 IsPair h TI (.ref i1) (.ref i2)/\h.IsListIter i1 l1 i/\h.IsListIter i2 l2 i/\h.IsList l1 xs/\h.IsList l2 ys /\
 ((IsZip h z TI TO .none/\∃ a b,IsPair h TO a b)\/∃ T f a b,Rv h z TI TO T f/\IsPair h T a b)
theorem ZS.at {z TI TO i1 i2 l1 l2:Addr} {xs ys:Array Value} {i:Nat} {h h':Heap} (Z:ZS z TI TO i1 i2 l1 l2 xs ys i h) {S:Addr} {acc:Array Value} {c:Nat} (hS:h.get? S=some { cls:=.type "list",dict:=none,data:=.seq acc c,slots := #[] }) (n1:S≠l1) (n2:S≠l2)
  (k:∀ b o,b≠S->h.get? b=some o->h'.get? b=some o):ZS z TI TO i1 i2 l1 l2 xs ys i h':=by
 obtain⟨a1,a2,a3,a4,a5,a6⟩:=Z;have ne:∀ {b:Addr} {o:Obj},h.get? b=some o->o.cls ≠ .type "list" -> b≠S:=fun {b o} e hn x=>by
  rw[x,hS] at e;cases e;exact hn rfl
 have nt:(Value.type "tuple") ≠ .type "list" := by ac_nf
 have nz:(Value.type "zip") ≠ .type "list" := by ac_nf
 have ki:∀ {b l:Addr},h.IsListIter b l i->h'.IsListIter b l i:=fun {b l} hi=>by
  obtain⟨o,e,c,r⟩:=hi;exact⟨o,k _ _ (ne e (by rw[c]; decide +kernel)) e,c,r⟩
 refine⟨k _ _ (ne a1 nt) a1,ki a2,ki a3,a4.at fun o e=>k _ _ n1.symm e,a5.at fun o e=>k _ _ n2.symm e,?_⟩;rcases a6 with ⟨b1,a,b,b2⟩ | ⟨T,f,a,b,b1,b2⟩
 ·exact .inl ⟨k _ _ (ne b1 nz) b1,a,b,k _ _ (ne b2 nt) b2⟩
 ·exact .inr ⟨T,f,a,b,k _ _ (ne b1 nz) b1,k _ _ (ne b2 nt) b2⟩
theorem AS {z TI TO i1 i2 l1 l2:Addr} {i:Nat} {xs ys:Array Value} {x y:Value} {Q:Option Value->Shared->Prop} (D:ZipApart z TI TO i1 i2 l1 l2) (Z:ZS z TI TO i1 i2 l1 l2 xs ys i s.heap) (hx:xs[i]?=some x) (hy:ys[i]?=some y)
  (hQ:∀ h',ZS z TI TO i1 i2 l1 l2 xs ys (i+1) h'->IsPair h' s.heap.objs.size x y->h'.objs.size=s.heap.objs.size+1 ->
   (∀ c o,c≠z->c≠TO->c≠i1->c≠i2->s.heap.get? c=some o->h'.get? c=some o)->Q (some (.ref s.heap.objs.size)) { s with heap:=h' }) :
  wpAny (model prog w) A (pyNext (.ref z)) Q E s:=by
 obtain⟨a1,a2,a3,a4,a5,a6⟩:=Z;rcases a6 with ⟨b1,a,b,b2⟩ | ⟨T,f,a,b,b1,b2⟩
 ·refine wpAny_pyNext_zip_item D b1 a1 b2 a2 a3 a4 a5 hx hy fun h' c1 c2 c3 c4 c5 c6 k=>hQ h' ⟨k _ _ D.TIz D.TITO D.TIi1 D.TIi2 a1,c3,c4,a4.at fun o e=>k _ _ D.l1z D.l1TO D.l1i1 D.l1i2 e,a5.at fun o e=>k _ _ D.l2z D.l2TO D.l2i1 D.l2i2 e,.inr ⟨_,false,_,_,c1,c5⟩⟩ c5 c6 k
 ·have nz:T≠z:=fun e=>by
   rw[e] at b2;have:=congrArg (Option.map Obj.cls) (b1.symm.trans b2);exact absurd (Option.some.inj this) (show (Value.type "zip") ≠ .type "tuple" from by ac_nf)
  have ni:∀ {q l:Addr},s.heap.IsListIter q l i->T≠q:=fun {q l} ⟨o,e,c,_⟩ x=>by
   rw[<- x,b2] at e;cases e;exact absurd c (show (Value.type "tuple") ≠ .type "list_iterator" from by ac_nf)
  refine M6 D b1 b2 a1 a2 a3 a4 a5 hx hy fun h' c1 c3 c4 c5 c6 k=>hQ h' ⟨k _ _ D.TIz D.TIi1 D.TIi2 a1,c3,c4,a4.at fun o e=>k _ _ D.l1z D.l1i1 D.l1i2 e,a5.at fun o e=>k _ _ D.l2z D.l2i1 D.l2i2 e,.inr ⟨T,true,a,b,c1,k _ _ nz (ni a2) (ni a3) b2⟩⟩ c5 c6 fun c o n1 _ n3 n4 e=>k c o n1 n3 n4 e
theorem CW {z TI TO i1 i2 l1 l2:Addr} {i:Nat} {xs ys:Array Value} {Q:Option Value->Shared->Prop} (hh:A.handled=none) (D:ZipApart z TI TO i1 i2 l1 l2) (Z:ZS z TI TO i1 i2 l1 l2 xs ys i s.heap) (hend:xs[i]?=none\/ys[i]?=none)
  (hQ:∀ h',(∀ c o,c≠z->c≠TO->c≠i1->c≠i2->s.heap.get? c=some o->h'.get? c=some o)->Q none { s with heap:=h' }):wpAny (model prog w) A (pyNext (.ref z)) Q E s:=by
 obtain⟨a1,a2,a3,a4,a5,a6⟩:=Z;rcases a6 with ⟨b1,a,b,b2⟩ | ⟨T,f,a,b,b1,b2⟩
 ·exact wpAny_pyNext_zip_end hh D b1 a1 b2 a2 a3 a4 a5 hend hQ
 ·exact Rb hh D b1 b2 a1 a2 a3 a4 a5 hend fun h' k=>hQ h' fun c o n1 _ n3 n4 e=>k c o n1 n3 n4 e
end
def PrsOf (lo:Nat) (h:Heap) (xs ys acc:Array Value) (i:Nat):Prop:=
 ∃ ts:List Addr,acc=(ts.map Value.ref).toArray/\ts.length=i/\ts.Pairwise (· < ·)/\(∀ t∈ts,lo<=t/\t<h.objs.size)/\∀ (j:Nat) (t:Addr),ts[j]?=some t->∃ x y,xs[j]?=some x/\ys[j]?=some y/\IsPair h t x y
theorem PrsOf.mono {lo:Nat} {h h':Heap} {xs ys acc:Array Value} {i:Nat} (p:PrsOf lo h xs ys acc i) (k:∀ c o,lo<=c->h.get? c=some o->h'.get? c=some o):PrsOf lo h' xs ys acc i:=by
 obtain⟨ts,e,l,pw,bd,im⟩:=p;refine⟨ts,e,l,pw,fun t ht=>?_,fun j t hj=>?_⟩
 ·obtain⟨j,hj⟩:=List.getElem?_of_mem ht
  obtain⟨x,y,hx,hy,hp⟩:=im j t hj;exact⟨(bd t ht).1,zAh (k _ _ (bd t ht).1 hp)⟩
 ·obtain⟨x,y,hx,hy,hp⟩:=im j t hj
  exact⟨x,y,hx,hy,k _ _ (bd t (zAB hj)).1 hp⟩
theorem PrsOf.push {lo:Nat} {h h':Heap} {xs ys acc:Array Value} {i:Nat} {x y:Value} (p:PrsOf lo h xs ys acc i) (hlo:lo<=h.objs.size) (hs:h'.objs.size=h.objs.size+1) (k:∀ c o,lo<=c->h.get? c=some o->h'.get? c=some o)
  (hx:xs[i]?=some x) (hy:ys[i]?=some y) (hp:IsPair h' h.objs.size x y):PrsOf lo h' xs ys (acc.push (.ref h.objs.size)) (i+1):=by
 obtain⟨ts,e,l,pw,bd,im⟩:=p;refine⟨ts++[h.objs.size],by rw[e]; simp,by rw[zAi,l]; rfl,?_,fun t ht=>?_,fun j t hj=>?_⟩
 ·rw[List.pairwise_append]
  exact⟨pw,List.pairwise_singleton _ _,fun a ha b hb=>by rw[zAg.mp hb]; exact (bd a ha).2⟩
 ·rcases zAy.mp ht with h1 | h1
  ·exact⟨(bd t h1).1,by rw[hs]; exact zAU (bd t h1).2⟩
  ·rw[zAg.mp h1]
   exact⟨hlo,by rw[hs]; exact zBs _⟩
 ·by_cases c:j<ts.length
  ·rw[zBZ c] at hj
   obtain⟨x,y,hx,hy,hp⟩:=im j t hj;exact⟨x,y,hx,hy,k _ _ (bd t (zAB hj)).1 hp⟩
  ·rw[zBG (by omega)] at hj
   have e2:j-ts.length=0:=by
    rcases Nat.eq_zero_or_pos (j-ts.length) with z | z
    ·exact z
    ·rw[zBE (by simp; omega)] at hj
     cases hj
   rw[e2] at hj;cases hj;have ej:j=i:=by omega
   subst ej;exact⟨x,y,hx,hy,hp⟩
section
variable {prog:Program} {w:World} {A:Around} {R:Result->Shared->Prop}
theorem Yy {z TI TO i1 i2 l1 l2 S:Addr} {xs ys:Array Value} {n lo:Nat} (hh:A.handled=none) (D:ZipApart z TI TO i1 i2 l1 l2) (hn:n<=sizeLine) (en:n=min xs.size ys.size) (lz:z<lo) (lT:TO<lo) (la:i1<lo) (lb:i2<lo) (lS:S<lo)
  (n1:S≠l1) (n2:S≠l2) (mz:S≠z) (mT:S≠TO) (ma:S≠i1) (mb:S≠i2) (res:Value) :
  ∀ (k i:Nat) (s:Shared) (acc:Array Value) (c:Nat),n-i=k->i<=n->lo<=s.heap.objs.size->ZS z TI TO i1 i2 l1 l2 xs ys i s.heap->s.heap.get? S=some { cls:=.type "list",dict:=none,data:=.seq acc c,slots := #[] }->PrsOf lo s.heap xs ys acc i ->
  (∀ h' acc' c',(∀ b o,b≠S->b≠z->b≠TO->b≠i1->b≠i2->s.heap.get? b=some o->h'.get? b=some o)->h'.get? S=some { cls:=.type "list",dict:=none,data:=.seq acc' c',slots := #[] }->PrsOf lo h' xs ys acc' n->R (.ok (.ret res)) { s with heap:=h' }) ->
  codeAny (model prog w) A (.builtin "list.extend.loop" ⟨[.ref S,.ref z,res],[]⟩) R s:=by
 intro k
 induction k with
 | zero=>
  intro i s acc c hk hi hlo hst hS hacc hR;have hin:i=n:=by omega
  subst hin;refine codeAny_builtin F.entry_extend_loop ?_;rw[Around.under_plainId F.plain_extend_loop _];show wpAny _ A.in1 (pyNext (.ref z) >>= _) _ _ s;refine zCt (CW hh D hst ?_ fun h' kp=>?_)
  ·rcases Nat.le_total xs.size ys.size with h | h
   ·exact .inl (zBr (by omega))
   ·exact .inr (zBr (by omega))
  ·exact zCu (hR h' acc c (fun b o _ b2 b3 b4 b5 e=>kp b o b2 b3 b4 b5 e) (kp _ _ mz mT ma mb hS) (hacc.mono fun b o l e=>kp b o (zAF (zAq lz l)) (zAF (zAq lT l)) (zAF (zAq la l)) (zAF (zAq lb l)) e))
 | succ k ih=>
  intro i s acc c hk hi hlo hst hS hacc hR;have hlt:i<n:=by omega
  have hx:i<xs.size:=by omega
  have hy:i<ys.size:=by omega
  refine codeAny_builtin F.entry_extend_loop ?_;rw[Around.under_plainId F.plain_extend_loop _];show wpAny _ A.in1 (pyNext (.ref z) >>= _) _ _ s;refine zCt (AS D hst (zAH hx) (zAH hy) fun h' Z' hp hsz kp=>?_);have hS':=kp _ _ mz mT ma mb hS;have hacc':=hacc.push hlo hsz (fun b o l e=>kp b o (zAF (zAq lz l)) (zAF (zAq lT l)) (zAF (zAq la l)) (zAF (zAq lb l)) e) (zAH hx) (zAH hy) hp;have az:acc.size=i:=by
   obtain⟨ts,e,l,_⟩:=hacc;rw[e,<- l];simp
  have oth:∀ b o,b≠S->h'.get? b=some o->(h'.update S (Obj.mapSeq (·.push (.ref s.heap.objs.size)))).get? b=some o:=fun b o hb e=>(zAM _ _ (Ne.symm hb)).trans e;show wpAny _ A.in1 (updateSeq S (·.push (.ref s.heap.objs.size)) >>= _) _ _ _;refine zCt ?_;refine wpAny_updateSeq hS' rfl (zCu ⟨plainId_quiet F.plain_extend_loop _,ih (i+1) _ (acc.push (.ref s.heap.objs.size)) _ (by omega) hlt ?_ (Z'.at hS' n1 n2 oth) (zAX _ hS' rfl) (hacc'.mono fun b o l e=>oth b o (zAF (zAq lS l)) e) fun h'' acc' c' hm hS'' hacc''=>?_⟩)
   (by rw[az]; omega) (by show (acc.push _).size<=sizeLine+1; rw[Array.size_push,az]; omega)
  ·rw[zBU]
   show lo<=h'.objs.size;rw[hsz];exact Nat.le_succ_of_le hlo
  ·exact hR h'' acc' c' (fun b o b1 b2 b3 b4 b5 e=>hm b o b1 b2 b3 b4 b5 (oth b o b1 (kp b o b2 b3 b4 b5 e))) hS'' hacc''
theorem Zt:typeLookup (.type "zip") "__len__" = pure none:=by rw[typeLookup_type,builtinLookup_eq_fast]; kernel_rfl
theorem Wp:typeLookup (.type "zip") "__length_hint__" = pure none:=by rw[typeLookup_type,builtinLookup_eq_fast]; kernel_rfl
theorem AC {z TI TO i1 i2 l1 l2 S:Addr} {xs ys:Array Value} {n lo:Nat} {s:Shared} {c:Nat} (hh:A.handled=none) (D:ZipApart z TI TO i1 i2 l1 l2) (hn:n<=sizeLine) (en:n=min xs.size ys.size) (lz:z<lo) (lT:TO<lo) (la:i1<lo) (lb:i2<lo) (lS:S<lo)
  (n1:S≠l1) (n2:S≠l2) (mz:S≠z) (mT:S≠TO) (ma:S≠i1) (mb:S≠i2) (res:Value) (hz:IsZip s.heap z TI TO .none) (hlo:lo<=s.heap.objs.size) (Z:ZS z TI TO i1 i2 l1 l2 xs ys 0 s.heap) (hS:s.heap.get? S=some { cls:=.type "list",dict:=none,data:=.seq #[] c,slots := #[] })
  (hR:∀ h' acc' c',(∀ b o,b≠S->b≠z->b≠TO->b≠i1->b≠i2->s.heap.get? b=some o->h'.get? b=some o)->h'.get? S=some { cls:=.type "list",dict:=none,data:=.seq acc' c',slots := #[] }->PrsOf lo h' xs ys acc' n->R (.ok (.ret res)) { s with heap:=h' }) :
  wpAny (model prog w) A.in1 (Builtin.List.listExtendWith (.ref S) (.ref z) res)
   (fun fin s'=>match fin with | .done f=>R (.ok f) s' | .again c'=>c'.quiet=true/\codeAny (model prog w) A c' R s') (fun e s'=>R (.error e) s') s:=by
 have hT:s.TypeIs (.ref z) "zip" := ⟨_,hz,rfl⟩;unfold Builtin.List.listExtendWith;refine zCt (wpAny_typeOf hT ?_);have h1:Builtin.List.listSameRef (.ref S) (.ref z)=false:=by simp [Builtin.List.listSameRef,mz]
 have h2:(Value.type "zip" == Value.type "list")=false:=by decide
 have h3:(Value.type "zip" == Value.type "tuple")=false:=by decide
 simp only [h1,h2,h3,Bool.or_false,zAW,if_false];refine zCt (wpAny_pyIter_zip hz ?_);refine zCt (wpAny_holding ?_);unfold Builtin.List.listLengthHint;refine zCt (wpAny_specialOf hT Zt ?_);show wpAny _ A.in1 (specialOf (Value.ref z) (Str.ofString "__length_hint__") >>= _) _ _ _;refine zCt (wpAny_specialOf hT Wp ?_);refine zCu ?_;show wpAny _ A.in1 (rule "list.extend.makes-room" >>= fun _=>Builtin.List.listTouch (.ref S) >>= fun _=>
  again (.builtin "list.extend.loop" ⟨[.ref S,.ref z,res],[]⟩)) _ _ _
 refine zCt (wpAny_rule ?_);refine zCt ?_;show wpAny _ A.in1 (updateSeq S (·.push .none) >>= fun _=>updateSeq S (·.pop)) _ _ _;refine zCt (wpAny_updateSeq hS rfl ?_);have hS₂ := zAX (Obj.mapSeq (·.push Value.none)) hS rfl;refine wpAny_updateSeq (hz:=by seq_fits) hS₂ rfl ?_;have hS₃ := zAX (Obj.mapSeq (·.pop)) hS₂ rfl;have oth:∀ b o,b≠S->s.heap.get? b=some o->((s.heap.update S (Obj.mapSeq (·.push Value.none))).update S (Obj.mapSeq (·.pop))).get? b=some o:=
  fun b o hb e=>(zAM _ _ (Ne.symm hb)).trans ((zAM _ _ (Ne.symm hb)).trans e)
 refine zCu ⟨plainId_quiet F.plain_extend_loop _,Yy hh D hn en lz lT la lb lS n1 n2 mz mT ma mb res n 0 _ #[] _ rfl (zAk _) (by rw[zBU,zBU]; exact hlo) (Z.at hS n1 n2 oth) hS₃
  ⟨[],rfl,rfl,.nil,fun t ht=>absurd ht zBf,fun j t hj=>by simp at hj⟩ fun h' acc' c' hm hS' hacc=>?_⟩
 exact hR h' acc' c' (fun b o b1 b2 b3 b4 b5 e=>hm b o b1 b2 b3 b4 b5 (oth b o b1 e)) hS' hacc
theorem R7 {z TI TO i1 i2 l1 l2 S:Addr} {xs ys:Array Value} {n lo:Nat} {s:Shared} (hh:A.handled=none) (D:ZipApart z TI TO i1 i2 l1 l2) (hn:n<=sizeLine) (en:n=min xs.size ys.size) (lz:z<lo) (lT:TO<lo) (la:i1<lo) (lb:i2<lo) (lS:S<lo)
  (n1:S≠l1) (n2:S≠l2) (mz:S≠z) (mT:S≠TO) (ma:S≠i1) (mb:S≠i2) (hz:IsZip s.heap z TI TO .none) (hlo:lo<=s.heap.objs.size) (Z:ZS z TI TO i1 i2 l1 l2 xs ys 0 s.heap) (hS:s.heap.get? S=some { cls:=.type "list",data:=.seq #[] })
  (hR:∀ h' acc' c',(∀ b o,b≠S->b≠z->b≠TO->b≠i1->b≠i2->s.heap.get? b=some o->h'.get? b=some o)->h'.get? S=some { cls:=.type "list",dict:=none,data:=.seq acc' c',slots := #[] }->PrsOf lo h' xs ys acc' n->R (.ok (.ret .none)) { s with heap:=h' }) :
  wpAny (model prog w) A.in1 (Builtin.«list.__init__» ⟨[.ref S,.ref z],[]⟩)
   (fun fin s'=>match fin with | .done f=>R (.ok f) s' | .again c'=>c'.quiet=true/\codeAny (model prog w) A c' R s') (fun e s'=>R (.error e) s') s:=by
 show wpAny _ A.in1 (do let old <- Builtin.List.listItems (.ref S); Builtin.List.listUpdate (.ref S) (fun _ => #[]); letGo old.toList.reverse; Builtin.List.listExtendWith (.ref S) (.ref z) .none) _ _ s;refine zCt ?_;unfold Builtin.List.listItems;refine zCt (wpAny_seqItems hS rfl (zCu ?_));show wpAny _ A.in1 (updateSeq S (fun _ => #[]) >>= fun _=>letGo (#[]:Array Value).toList.reverse >>= fun _=>Builtin.List.listExtendWith (.ref S) (.ref z) .none) _ _ s;refine zCt (wpAny_updateSeq hS rfl ?_);have hS₂ := zAX (Obj.mapSeq (fun _=>(#[]:Array Value))) hS rfl;have oth:∀ b o,b≠S->s.heap.get? b=some o->(s.heap.update S (Obj.mapSeq (fun _=>(#[]:Array Value)))).get? b=some o:=
  fun b o hb e=>(zAM _ _ (Ne.symm hb)).trans e
 refine zCt (wpAny_letGo ?_);refine AC hh D hn en lz lT la lb lS n1 n2 mz mT ma mb .none (oth _ _ mz.symm hz) (by rw[zBU]; exact hlo) (Z.at hS n1 n2 oth) hS₂ fun h' acc' c' hm hS' hacc=>?_;exact hR h' acc' c' (fun b o b1 b2 b3 b4 b5 e=>hm b o b1 b2 b3 b4 b5 (oth b o b1 e)) hS' hacc
theorem Rt {z TI TO i1 i2 l1 l2:Addr} {xs ys:Array Value} {n:Nat} {s:Shared} {Q:Value->Shared->Prop} {E:Value->Shared->Prop} (hh:A.handled=none) (D:ZipApart z TI TO i1 i2 l1 l2) (hn:n<=sizeLine) (en:n=min xs.size ys.size) (hz:IsZip s.heap z TI TO .none) (Z:ZS z TI TO i1 i2 l1 l2 xs ys 0 s.heap) (hTO:∃ a b,IsPair s.heap TO a b)
  (hQ:∀ h' acc' c',(∀ b o,b≠z->b≠TO->b≠i1->b≠i2->s.heap.get? b=some o->h'.get? b=some o)->h'.get? s.heap.objs.size=some { cls:=.type "list",dict:=none,data:=.seq acc' c',slots := #[] }->PrsOf (s.heap.objs.size+1) h' xs ys acc' n->Q (.ref s.heap.objs.size) { s with heap:=h' }) :
  wpAny (model prog w) A (call (.type "list") [.ref z]) Q E s:=by
 obtain⟨_,⟨o1,e1,_⟩,⟨o2,e2,_⟩,⟨o3,e3,_⟩,⟨o4,e4,_⟩,_⟩:=id Z;obtain⟨a,b,eT⟩:=hTO;have L:∀ {c:Addr} {o:Obj},s.heap.get? c=some o->c<s.heap.objs.size:=fun e=>zAh e;refine callType_codes (Q₁ := fun obj s₁ => obj = .ref s.heap.objs.size/\s₁ = { s with heap:=s.heap.push { cls:=.type "list",data:=.seq #[] } }) F.called_list (F.typeCall_list_1 _) F.entry_list_init
  (code_list_new _ ⟨rfl,rfl⟩) fun obj s₁ h₁ => ?_
 obtain⟨rfl,rfl⟩:=h₁;have hS:(s.heap.push { cls:=.type "list",data:=.seq #[] }).get? s.heap.objs.size=some { cls:=.type "list",data:=.seq #[] }:=zAt _ rfl;have up:∀ c o,s.heap.get? c=some o->(s.heap.push { cls:=.type "list",data:=.seq #[] }).get? c=some o:=fun c o e=>zAc _ e;refine⟨⟨_,hS,rfl⟩,F.args_list_init_2 _ _,R7 (lo:=s.heap.objs.size+1) hh D hn en (zAU (L hz)) (zAU (L eT)) (zAU (L e1)) (zAU (L e2)) (zBs _) (zAF (L e3)) (zAF (L e4)) (zAF (L hz)) (zAF (L eT)) (zAF (L e1)) (zAF (L e2))
  (up _ _ hz) (by show _<=(s.heap.push _).objs.size; rw[zBm]; exact zAf _) ?_ hS fun h' acc' c' hm hS' hacc=>?_⟩
 ·obtain⟨a1,a2,a3,a4,a5,a6⟩:=Z
  refine⟨up _ _ a1,a2.at fun o e=>up _ _ e,a3.at fun o e=>up _ _ e,a4.at fun o e=>up _ _ e,a5.at fun o e=>up _ _ e,.inl ⟨up _ _ hz,a,b,up _ _ eT⟩⟩
 ·exact⟨rfl,hQ h' acc' c' (fun b o b2 b3 b4 b5 e=>hm b o (zAm (L e)) b2 b3 b4 b5 (up _ _ e)) hS' hacc⟩
end
theorem Vals.back {xs:List V} {us:List Value} {k:Nat} {u:Value} (r:Vals xs us) (h:us[k]?=some u):∃ x,xs[k]?=some x/\RelV x u:=by
 have l:=r.length;have hk:k<xs.length:=by
  rw[l];exact (zAj.mp h).1
 obtain⟨u',e,q⟩:=r.get (zAn hk);rw[h] at e;cases e;exact⟨_,zAn hk,q⟩
theorem Oz {X:Cx} {pins:List (Addr×Obj)} {σ:St} {s:Shared} {xs ys:List V} {us vs:List Value} (rx:Vals xs us) (ry:Vals ys vs):∀ (ts:List Addr) (m:Nat) (H:Hp),Inv X pins σ H s->ts.Pairwise (· < ·)->(∀ t∈ts,Iy X pins H t) ->
  (∀ (j:Nat) (t:Addr),ts[j]?=some t->∃ u v,us[m+j]?=some u/\vs[m+j]?=some v/\IsPair s.heap t u v)->∃ H2,Inv X pins σ H2 s/\(∀ b o,H b=some o->H2 b=some o)/\∀ (j:Nat) (t:Addr),ts[j]?=some t->∃ x y,xs[m+j]?=some x/\ys[m+j]?=some y/\H2 t=some (.tup [x,y])
 | [],_,H,I,_,_,_=>⟨H,I,fun _ _ e=>e,fun j t h=>by simp at h⟩
 | t::ts,m,H,I,pw,fp,im=>by
  obtain⟨u,v,hu,hv,hp⟩:=im 0 t rfl;obtain⟨x,hx,ru⟩:=rx.back hu;obtain⟨y,hy,rv⟩:=ry.back hv;rw[zBu] at pw;have I2:Inv X pins σ (upd H t (.tup [x,y])) s:=I.trackN (fp t zAo) ⟨Bk (by show 2<=1000; decide),[u,v],.cons ru (.cons rv .nil),?_⟩
  ·have ht:=(fp t zAo).1
   obtain⟨H2,I3,k,im2⟩:=Oz rx ry ts (m+1) _ I2 pw.2 (fun t' ht'=>by
    obtain⟨q1,q2⟩:=fp t' (zAs _ ht');exact⟨by rw[Aq (zAF (pw.1 t' ht'))]; exact q1,q2⟩) fun j t' hj=>by
     have:=im (j+1) t' hj;rw[show m+1+j=m+(j+1) from by omega];exact this
   refine⟨H2,I3,fun b o e=>k b o (by rw[Aq (fun z=>by rw[z,ht] at e; cases e)]; exact e),fun j t' hj=>?_⟩;cases j with
   | zero=>
    cases hj
    exact⟨x,y,hx,hy,k _ _ Af⟩
   | succ j=>
    have:=im2 j t' hj;rw[show m+1+j=m+(j+1) from by omega] at this;exact this
  ·exact⟨_,hp,rfl,_,rfl⟩
def JT (K:zAa) (ta:TA):TE:=fun σ H Q=>ta σ H fun vs H1=>∃ a b xs ys,vs=[.ref a,.ref b]/\SqL K H1 a xs/\SqL K H1 b ys/\∀ (r:Addr) (ts:List Addr) (H2:Hp),H1 r=none->(∀ b o,H1 b=some o->H2 b=some o)->ts.length=min xs.length ys.length ->
 H2 r=some (.lst (ts.map V.ref))->(∀ (j:Nat) (t:Addr),ts[j]?=some t->∃ x y,xs[j]?=some x/\ys[j]?=some y/\H1 t=none/\H2 t=some (.tup [x,y]))->Q (.ref r) H2
theorem Qg {X:Cx} {e1 e2:Expr} {ta:TA} {p pos p2 pos2:Pos} (hg:Gl X "list") (hm:X.mg "list" = none) (hg2:Gl X "zip") (hm2:X.mg "zip" = none) (ha:PA X [e1,e2] ta) (hc:X.calm=true:=by rfl) (hs:starEach [e1,e2] X.env=[(false,eval e1 X.env),(false,eval e2 X.env)]:=by rfl) (hs2:starEach [e2] X.env=[(false,eval e2 X.env)]:=by rfl)
  (hs3:starEach [.Call (.Name "zip" p2) [e1,e2] [] pos2] X.env=(false,eval (.Call (.Name "zip" p2) [e1,e2] [] pos2) X.env)::starEach [] X.env:=by rfl) :
  PE X (.Call (.Name "list" p) [.Call (.Name "zip" p2) [e1,e2] [] pos2] [] pos) (JT X.K ta):=by
 intro pins s σ H Q I h;refine wpAny_Call_Name_kw (Dm I hg hm (show zCw "list" = some (.type "list") from rfl) ?_);refine PyProof.Rows.callWith_type1 ?_ hs3 rfl;rw[hs3];show wpAny _ _ (spliced ((false,eval (.Call (.Name "zip" p2) [e1,e2] [] pos2) X.env)::backTo pos (starEach [] X.env))) _ _ s;refine Calls.spliced_cons ?_;refine Call_ (Dm I hg2 hm2 (show zCw "zip" = some (.type "zip") from rfl) (PyProof.Rows.callWith_type1 (Ca (ha pos2 pins s σ H _ I h) fun us s1 ⟨vs,H1,I1,r1,q1⟩=>?_) (by rw[hs,hs2]) (by rw[hs2]; rfl)));obtain⟨a,b,xs,ys,ev,hq1,hq2,q⟩:=q1;subst ev;cases r1 with
 | cons ra rr=>
  cases rr with
  | cons rb rr=>
   cases rr
   cases ra
   cases rb
   obtain⟨its,rv,pl,hz⟩:=I1.list hq1;obtain⟨jts,rv',pl',hz'⟩:=I1.list hq2;have hh:X.A.handled=none:=I.ok.hd hc;refine call_zip_2 pl.isList pl'.isList fun h' b1 b2 b3 b4 b5 b6 hk=>?_;refine Calls.spliced_nil ?_;have l1:=rv.length;have l2:=rv'.length;have Z:ZS (s1.heap.objs.size+4) (s1.heap.objs.size+2) (s1.heap.objs.size+3) s1.heap.objs.size (s1.heap.objs.size+1) a b its.toArray jts.toArray 0 h':=⟨b2,b4,b5,pl.isList.at fun o e=>hk _ _ e,pl'.isList.at fun o e=>hk _ _ e,.inl ⟨b1,_,_,b3⟩⟩;have D:=Nh (W8 s1.heap.objs.size) (k:=0) (h:=h') ⟨b1,b2,⟨_,_,b3⟩,b4,b5⟩ Z.2.2.2.1 Z.2.2.2.2.1;refine Rt (n:=min its.length jts.length) hh D (by omega) (by simp) b1 Z ⟨_,_,b3⟩ fun h2 acc c hk2 hS hpr=>?_;obtain⟨ts,rfl,lt,pw,bd,im⟩:=hpr;have hS:h2.get? h'.objs.size=some { cls:=.type "list",dict:=none,data:=.seq (ts.map Value.ref).toArray c,slots := #[] }:=hS;have bd:∀ t∈ts,h'.objs.size+1<=t/\t<h2.objs.size:=bd;have kp:∀ b o,s1.heap.get? b=some o->h2.get? b=some o:=fun b o e=>by
    have lb:=zAh e;exact hk2 b o (zAm (zAq lb (zBV _ _))) (zAm (zAq lb (zBV _ _))) (zAm lb) (zAm (zAq lb (zBV _ _))) (hk _ _ e)
   have le:s1.heap.objs.size<=h'.objs.size:=by rw[b6]; exact zBV _ _
   have fS:H1 h'.objs.size=none:=I1.hok.fresh le;have vr:∀ l:List Addr,Vals (l.map V.ref) (l.map Value.ref):=fun l=>by
    induction l with
    | nil=>exact .nil
    | cons a l ih=>exact .cons rfl ih
   have I2:Inv X pins σ (upd H1 h'.objs.size (.lst (ts.map V.ref))) { s1 with heap:=h2 }:=I1.laid (t':=s1.toks) kp le ⟨by rw[zAb,lt]; omega,_,c,vr ts,hS⟩;have ne:∀ t∈ts,t≠h'.objs.size:=fun t ht=>zAF (bd t ht).1;have ft:∀ t∈ts,H1 t=none:=fun t ht=>I1.hok.fresh (zAA le (zBw (bd t ht).1));obtain⟨H2,I3,k3,im3⟩:=Oz rv rv' ts 0 _ I2 pw (fun t ht=>I1.fpOk (zAA le (zBw (bd t ht).1)) (by rw[Aq (ne t ht)]; exact ft t ht)) fun j t hj=>by
    obtain⟨x,y,hx,hy,hp⟩:=im j t hj;rw[Nat.zero_add];exact⟨x,y,by simpa using hx,by simpa using hy,hp⟩
   refine⟨.ref h'.objs.size,H2,I3,rfl,q _ ts H2 fS (fun b o e=>k3 b o (by rw[Aq (fun z=>by rw[z,fS] at e; cases e)]; exact e)) (by omega) (k3 _ _ Af) fun j t hj=>?_⟩;obtain⟨x,y,hx,hy,hp⟩:=im3 j t hj;rw[Nat.zero_add] at hx hy;exact⟨x,y,hx,hy,ft t (zAB hj),hp⟩
end L2
namespace CRP
end CRP
namespace CR
abbrev Rn:=Int×Int
def cutM (lo hi:Int) (p:Rn):Rn:=(if lo>p.1 then lo else p.1,if hi<p.2 then hi else p.2)
def cutW (ps:List Rn) (lo hi:Int):List Rn:=(ps.map (cutM lo hi)).filter fun p=>decide (p.1<p.2)
def lowW:List Rn->Int->List Rn
 | [],_=>[]
 | p::ps,n=>(if 0<n then [(p.1,if p.1+n<p.2 then p.1+n else p.2)] else [])++lowW ps (n-(p.2-p.1))
theorem U5:∀ (ps:List Rn) (n:Int),(lowW ps n).length<=ps.length
 | [],_=>zAf _
 | p::ps,n=>by
  have:=U5 ps (n-(p.2-p.1));unfold lowW;rw[zAi,zAl]
  split <;> simp <;> lia
def maxI (a b:Int):Int:=if b>a then b else a
def minI (a b:Int):Int:=if b<a then b else a
def leftW (e:Int):Int->List Rn->List Rn
 | b,[]=>if b<e then [(b,e)] else []
 | b,q::qs=>(if b<minI q.1 e then [(b,minI q.1 e)] else [])++leftW e (maxI b q.2) qs
def outW (ps qs:List Rn):List Rn:=(ps.map fun p=>leftW p.2 p.1 qs).flatten
theorem leftW_len (e:Int):∀ (qs:List Rn) (b:Int),(leftW e b qs).length<=qs.length+1
 | [],b=>by unfold leftW; split <;> simp
 | q::qs,b=>by
  have:=leftW_len e qs (maxI b q.2);unfold leftW;rw[zAi,zAl]
  split <;> simp <;> lia
theorem outW_len (ps qs:List Rn):(outW ps qs).length<=ps.length*(qs.length+1):=by
 unfold outW
 induction ps with
 | nil=>simp
 | cons p ps ih=>
  have:=leftW_len p.2 qs p.1;rw[zBa,List.flatten_cons,zAi,zAl,Nat.add_mul];omega
theorem lowW_nil (n:Int):lowW [] n=[]:=rfl
theorem lowW_cons (p:Rn) (ps:List Rn) (n:Int):lowW (p::ps) n=(if 0<n then [(p.1,if p.1+n<p.2 then p.1+n else p.2)] else [])++lowW ps (n-(p.2-p.1)):=rfl
theorem leftW_nil (e b:Int):leftW e b []=if b<e then [(b,e)] else []:=rfl
theorem leftW_cons (e b:Int) (q:Rn) (qs:List Rn):leftW e b (q::qs)=(if b<minI q.1 e then [(b,minI q.1 e)] else [])++leftW e (maxI b q.2) qs:=rfl
end CR
namespace CRT
open CR CRP
section
variable {ν : Type}
end
end CRT
namespace CR
end CR
namespace CRT
open CR CRP
section
variable {ν : Type}
end
end CRT
namespace CRL
open PySem L2
def top (i:Nat):Stmt:=PySem.Challenge.pw_coverroll_k89_too_wide.main.body.getD i (.Pass ⟨0,0,0,0⟩)
abbrev Kd:Stmt:=top 10
abbrev Do:Stmt:=top 20
abbrev Mq:Stmt:=top 21
abbrev Iw:Stmt:=top 22
abbrev Oy:Stmt:=top 26
abbrev Kp:Stmt:=top 27
abbrev Mu:Stmt:=top 28
abbrev Md:Stmt:=top 29
abbrev Ey:Stmt:=top 30
abbrev Kg:Stmt:=top 31
abbrev Fs:Stmt:=top 32
abbrev Mr:Stmt:=top 33
abbrev Ec:Stmt:=Bt (top 35) 0
abbrev Hk:Stmt:=top 37
abbrev Iv:Stmt:=top 38
abbrev Go:Stmt:=top 39
abbrev Ma:Stmt:=top 40
abbrev Hs:Stmt:=top 42
abbrev Kk:Stmt:=top 43
abbrev Ip:Stmt:=top 44
abbrev Fp:Stmt:=top 45
abbrev Im:Stmt:=top 46
abbrev Ka:Stmt:=top 49
abbrev Kr:Stmt:=top 50
abbrev Ir:Stmt:=top 51
abbrev Pj:Stmt:=top 52
abbrev Ju:Stmt:=top 53
abbrev Fd:Stmt:=Bt (top 56) 0
abbrev Hi:Stmt:=top 58
abbrev Eg:Stmt:=Bt (top 59) 0
abbrev Ej:Stmt:=Bt (top 59) 3
abbrev Du:Stmt:=Bt (top 60) 0
abbrev Fa:Stmt:=Bt (top 60) 1
abbrev Fc:Stmt:=Bt (top 60) 3
abbrev Dv:Stmt:=Bt (top 61) 0
abbrev Fg:Stmt:=Bt (top 61) 1
abbrev Fe:Stmt:=Bt (top 61) 3
abbrev Ee:Stmt:=Bt (top 62) 0
abbrev Ga:Stmt:=Bt (top 62) 1
abbrev Fw:Stmt:=Bt (top 62) 3
abbrev Ez:Stmt:=Bt (top 63) 0
abbrev Hf:Stmt:=Bt (top 63) 1
abbrev Hn:Stmt:=Bt (top 63) 3
abbrev Fh:Stmt:=Bt (top 64) 0
abbrev Hm:Stmt:=Bt (top 64) 1
abbrev Ht:Stmt:=Bt (top 64) 4
abbrev Gp:Stmt:=top 68
abbrev Kh:Stmt:=top 69
abbrev Py:Stmt:=top 70
abbrev Ev:Stmt:=top 71
abbrev Tt:Stmt:=top 72
abbrev Ew:Stmt:=Bt (top 73) 0
abbrev Fx:Stmt:=top 77
abbrev Fi:Stmt:=top 78
abbrev Iq:Stmt:=top 79
abbrev Bs:Stmt:=Bt (top 80) 0
abbrev Ho:Stmt:=Bt (top 80) 1
abbrev Gi:Stmt:=Bt (top 80) 2
abbrev Ft:Stmt:=Bt (top 80) 3
abbrev Gj:Stmt:=Bt (top 80) 4
abbrev Hh:Stmt:=Bt (top 80) 5
abbrev Ix:Stmt:=top 82
abbrev Ib:Stmt:=top 83
abbrev Ih:Stmt:=top 84
abbrev Fo:Stmt:=top 85
abbrev Qn:Stmt:=top 86
structure Txt (K:zAa) (mg:Str->Option Value):Prop where
 g_ANY_OTHER:BN mg "ANY_OTHER" ""
 g_CAUSE:Ls mg "CAUSE" 4
 g_CENTS:Ls mg "CENTS" 5
 g_COVERED_ONE:BN mg "COVERED_ONE" "self"
 g_DAY:Ls mg "DAY" 1
 g_LAST_DAY:Ls mg "LAST_DAY" 1000000
 g_LETTERS:BN mg "LETTERS" "abcdefghijklmnopqrstuvwxyz"
 g_LONGEST_NAME:Ls mg "LONGEST_NAME" 8
 g_MOST_CELLS:Ls mg "MOST_CELLS" 120
 g_MOST_CENTS:Ls mg "MOST_CENTS" 999999999999
 g_MOST_CLAUSES:Ls mg "MOST_CLAUSES" 8
 g_MOST_COVERS:Ls mg "MOST_COVERS" 8
 g_MOST_PLACES:Ls mg "MOST_PLACES" 8
 g_MOST_ROWS:Ls mg "MOST_ROWS" 120
 g_MOST_TURNS:Ls mg "MOST_TURNS" 100
 g_THING:Ls mg "THING" 3
 n_ValueError:mg "ValueError" = none
 n_bool:mg "bool" = none
 n_enumerate:mg "enumerate" = none
 n_int:mg "int" = none
 n_isinstance:mg "isinstance" = none
 n_len:mg "len" = none
 n_list:mg "list" = none
 n_max:mg "max" = none
 n_min:mg "min" = none
 n_range:mg "range" = none
 n_set:mg "set" = none
 n_sorted:mg "sorted" = none
 n_str:mg "str" = none
 n_sum:mg "sum" = none
 n_zip:mg "zip" = none
structure Xc (K:zAa) (mg:Str->Option Value) (Bq Cq Ay De Cm Cb Au:Addr):Prop where
 a_CoverError:mg "CoverError" = some (.ref Bq)
 a_NoShares:mg "NoShares" = some (.ref Cq)
 a_NoEntry:mg "NoEntry" = some (.ref Ay)
 a_NoCover:mg "NoCover" = some (.ref De)
 a_NoBook:mg "NoBook" = some (.ref Cm)
 a_NotTold:mg "NotTold" = some (.ref Cb)
 a_TooWide:mg "TooWide" = some (.ref Au)
 x_TooWide:CZ K "TooWide" mg Au
 e_TooWide:FC K Au
 v_TooWide:zAE K (.ref Au) (.type "ValueError")=some true
 k_TooWide_NoBook:zAE K (.ref Au) (.ref Cm)=some false
 k_TooWide_NotTold:zAE K (.ref Au) (.ref Cb)=some false
 k_TooWide_TooWide:zAE K (.ref Au) (.ref Au)=some true
 k_TooWide_NoEntry:zAE K (.ref Au) (.ref Ay)=some false
 h_TooWide_CoverError:zCg K (.ref Au) (.ref Bq)=some true
 x_NoEntry:CZ K "NoEntry" mg Ay
 e_NoEntry:FC K Ay
 v_NoEntry:zAE K (.ref Ay) (.type "ValueError")=some true
 k_NoEntry_NoBook:zAE K (.ref Ay) (.ref Cm)=some false
 k_NoEntry_NotTold:zAE K (.ref Ay) (.ref Cb)=some false
 k_NoEntry_TooWide:zAE K (.ref Ay) (.ref Au)=some false
 k_NoEntry_NoEntry:zAE K (.ref Ay) (.ref Ay)=some true
 h_NoEntry_CoverError:zCg K (.ref Ay) (.ref Bq)=some true
structure Kl (K:zAa) (mg:Str->Option Value) (Ab Ad Ae Ag Al Ak Am Ac As At:Addr):Prop where
 mg_Condition:mg "Condition" = some (.ref Ab)
 cl_Condition:Cls K Ab
 mg_CauseIs:mg "CauseIs" = some (.ref Ad)
 cl_CauseIs:Cls K Ad
 na_CauseIs_name:NoAttr K Ad "name"
 mg_ThingIs:mg "ThingIs" = some (.ref Ae)
 cl_ThingIs:Cls K Ae
 na_ThingIs_name:NoAttr K Ae "name"
 mg_DaysIn:mg "DaysIn" = some (.ref Ag)
 cl_DaysIn:Cls K Ag
 na_DaysIn_first:NoAttr K Ag "first"
 na_DaysIn_last:NoAttr K Ag "last"
 mg_Over:mg "Over" = some (.ref Al)
 cl_Over:Cls K Al
 na_Over_cents:NoAttr K Al "cents"
 mg_Some:mg "Some" = some (.ref Ak)
 cl_Some:Cls K Ak
 na_Some_several:NoAttr K Ak "several"
 mg_Deal:mg "Deal" = some (.ref Am)
 cl_Deal:Cls K Am
 na_Deal_wheel:NoAttr K Am "wheel"
 na_Deal_weights:NoAttr K Am "weights"
 mg_Cover:mg "Cover" = some (.ref Ac)
 cl_Cover:Cls K Ac
 na_Cover_name:NoAttr K Ac "name"
 na_Cover_condition:NoAttr K Ac "condition"
 na_Cover_clauses:NoAttr K Ac "clauses"
 na_Cover_houses:NoAttr K Ac "houses"
 na_Cover_deal:NoAttr K Ac "deal"
 na_Cover_waits:NoAttr K Ac "waits"
 mg_Book:mg "Book" = some (.ref As)
 cl_Book:Cls K As
 na_Book_covers:NoAttr K As "covers"
 na_Book_asking:NoAttr K As "asking"
 mg_Counts:mg "Counts" = some (.ref At)
 cl_Counts:Cls K At
 na_Counts_kept:NoAttr K At "kept"
 nd:([Ab,Ad,Ae,Ag,Al,Ak,Am,Ac,As,At]:List Addr).Nodup
theorem dT {c A B:Prop} [Decidable c] (h:c) (q:A):if decide c=true then A else B:=by rw[decide_eq_true h,if_pos rfl]; exact q
theorem dF {c A B:Prop} [Decidable c] (h:¬ c) (q:B):if decide c=true then A else B:=by rw[decide_eq_false h,if_neg zAr]; exact q
theorem nT {c A B:Prop} [Decidable c] (h:¬ c) (q:A):if (!decide c)=true then A else B:=by rw[decide_eq_false h]; exact q
theorem nF {c A B:Prop} [Decidable c] (h:c) (q:B):if (!decide c)=true then A else B:=by rw[decide_eq_true h]; exact q
def Q7:V->Bool
 | .int _=>true
 | _=>false
theorem O4 {K:zAa} {H:Hp} {x:V} {T:String} (h:TyOf K H x (.type T)):∃ b1 b2,zAE K (.type T) (.type "int")=some b1/\zAE K (.type T) (.type "bool")=some b2/\Q7 x=(b1 && !b2):=by
 cases h with
 | non=>exact⟨false,false,by kernel_rfl,by kernel_rfl,rfl⟩
 | bl b=>exact⟨true,true,by kernel_rfl,by kernel_rfl,rfl⟩
 | int i=>exact⟨true,false,by kernel_rfl,by kernel_rfl,rfl⟩
 | str i=>exact⟨false,false,by kernel_rfl,by kernel_rfl,rfl⟩
 | flt i=>exact⟨false,false,by kernel_rfl,by kernel_rfl,rfl⟩
 | lst e=>exact⟨false,false,by kernel_rfl,by kernel_rfl,rfl⟩
 | frz e=>exact⟨false,false,by kernel_rfl,by kernel_rfl,rfl⟩
 | tup e=>exact⟨false,false,by kernel_rfl,by kernel_rfl,rfl⟩
 | dK e=>exact⟨false,false,by kernel_rfl,by kernel_rfl,rfl⟩
 | dT e=>exact⟨false,false,by kernel_rfl,by kernel_rfl,rfl⟩
theorem CT {K:zAa}:zAE K (.type "list") (.type "list")=some true:=by kernel_rfl
def Op (K:zAa):Sp:=fun vs H Q _=>∃ x T,vs=[x]/\TyOf K H x (.type T)/\Q (.bl (Q7 x)) H
def Zk (K:zAa):Sp:=fun vs H Q _=>∃ a ns,∃ k:Int,vs=[.ref a,.int k]/\SqL K H a (List.map V.int ns)/\0<=k/\ns.length<=63/\Q (.int (ns.getD k.toNat 0)) H
section
variable {P:Program} {w:World} {K:zAa} {mg:Str->Option Value} {base:Heap}
theorem Uo:Aw ["_law_script", "_law_k"] ["_law_script", "_law_k"] (Ar Ix):=by injections
theorem Vi {f:Addr} {fd:zCx} (F:Fun K "_law_cell" "_law_cell" Ix f fd) (T:Txt K mg):FnOk P w K mg base Da 1 f fd ["_law_script", "_law_k"] (Zk K):=by
 have sc:=Uo;bv_omega
 ·obtain⟨_,_,_,rfl,_⟩:=h
  rfl
 obtain⟨a,ns,k,rfl,ha,h0,h63,q⟩:=h;refine⟨_,(Aj (Cd (Bd Hx (pv 1) (Bb Bh rfl T.n_len (show zCw _=some (.builtin "len") from rfl) (Aa (pv 0) Ah)) (Bf _))
    (An (Az (Be Bx (pv 0) (pv 1) (fun _ _=>rfl))))
    Bm)
   (An (Az Ao))),?_⟩
 have hl:(List.map V.int ns).length=ns.length:=zAb _;refine (vE rfl (vE rfl ⟨a,_,rfl,.inl ha,vF rfl rfl (vE rfl ?_)⟩));rw[hl];refine G8 (fun c=>?_) (fun c=>?_)
 ·have c':k<(ns.length:Int):=of_decide_eq_true c
  exact (vE rfl (vE rfl ⟨a,_,_,_,rfl,rfl,ha,BQ h0 c',q⟩))
 ·have c':¬ k<(ns.length:Int):=of_decide_eq_false (zBz.mpr c)
  have e:ns.getD k.toNat 0=0:=by
   rw[zAI,zBE (by lia)];rfl
  rw[e] at q;exact q
theorem Vp:Aw ["thing"] ["thing"] (Ar Kd):=by injections
theorem Yf {f:Addr} {fd:zCx} (F:Fun K "is_whole" "is_whole" Kd f fd) (T:Txt K mg):FnOk P w K mg base Da 1 f fd ["thing"] (Op K):=by
 have sc:=Vp;bv_omega
 ·obtain⟨x,T,rfl,_⟩:=h
  rfl
 obtain⟨x,ty,rfl,hty,q⟩:=h;refine⟨_,(An (Az (Qt (Bb Gd rfl T.n_isinstance (show zCw _=some (.builtin "isinstance") from rfl) (Aa (pv 0) (Aa (Xf "int" rfl T.n_int rfl) Ah))) (Qv (DE (Bb Gd rfl T.n_isinstance (show zCw _=some (.builtin "isinstance") from rfl) (Aa (pv 0) (Aa (Xf "bool" rfl T.n_bool rfl) Ah)))))))),?_⟩;obtain⟨b1,b2,k1,k2,e⟩:=O4 hty;rw[e] at q;refine (vE rfl ⟨_,_,_,_,_,rfl,Qr,hty,k1,_,rfl,?_⟩);cases b1 with
 | false=>exact q
 | true=>exact⟨_,rfl,_,_,_,_,_,rfl,Qr,hty,k2,_,rfl,q⟩
def FO (m:Int):V->Bool
 | .int i=>decide (0<=i/\i<=m)
 | _=>false
def Y4 (K:zAa) (m:Int):Sp:=fun vs H Q _=>∃ x T,vs=[x]/\TyOf K H x (.type T)/\Q (.bl (FO m x)) H
theorem Uk:Aw ["thing"] ["thing"] (Ar Iw):=by injections
theorem Uv {f:Addr} {fd:zCx} (F:Fun K "is_amount" "is_amount" Iw f fd) (T:Txt K mg) (Cis_whole:Cr P w K mg base 1 "is_whole" ["thing"] (Op K)):FnOk P w K mg base Da 2 f fd ["thing"] (Y4 K 999999999999):=by
 have sc:=Uk;bv_omega
 ·obtain⟨_,_,rfl,_⟩:=h
  rfl
 obtain⟨x,ty,rfl,hty,q⟩:=h;refine⟨_,(An (Az (Qt (Av Cis_whole (hr.mono (by decide)) rfl (Aa (pv 0) Ah)) (Qv (Ox Ij Ij Ao (pv 0) (Cu T.g_MOST_CENTS rfl)))))),?_⟩;refine (vE rfl ⟨_,_,rfl,hty,_,rfl,?_⟩);cases x with
 | int i=>
  refine Jr (vE rfl (vF rfl rfl (vE rfl ?_)));by_cases c1:(0:Int)<=i
  ·refine dT c1 (vF rfl rfl ?_)
   show Q (.bl (decide (i<=999999999999))) H;have e:decide (0<=i/\i<=999999999999)=decide (i<=999999999999):=by
    by_cases c2:i<=999999999999
    ·rw[decide_eq_true c2,decide_eq_true ⟨c1,c2⟩]
    ·rw[decide_eq_false c2,decide_eq_false (fun y=>c2 y.2)]
   rw[<- e];exact q
  ·refine dF c1 ?_
   rw[show FO 999999999999 (.int i)=false from decide_eq_false (fun y=>c1 y.1)] at q;exact q
 | _=>exact Dk q
end
def Kf (c:Nat):Prop:=97<=c/\c<=122
instance:DecidablePred Kf:=fun c=>by unfold Kf; exact inferInstance
def Ik (l:List Nat):Prop:=∀ c∈l,Kf c
instance (l:List Nat):Decidable (Ik l):=by unfold Ik; exact inferInstance
def Xq (l:List Nat):Prop:=(1<=l.length/\l.length<=8)/\Ik l
instance (l:List Nat):Decidable (Xq l):=by unfold Xq; exact inferInstance
theorem let_in {c:Nat}:(c∈(Str.ofString "abcdefghijklmnopqrstuvwxyz").cps.toList)↔Kf c:=by
 have e:(Str.ofString "abcdefghijklmnopqrstuvwxyz").cps.toList=(zAN 26).map (97 + ·):=by ac_nf
 rw[e,zAR];unfold Kf;constructor
 ·rintro ⟨k,hk,rfl⟩
  have:=zAS.mp hk
  lia
 ·intro h
  exact⟨c-97,zAS.mpr (by lia),by lia⟩
def CS:V->Bool
 | .str _=>true
 | _=>false
def nameV:V->Bool
 | .str z=>decide (Xq z.cps.toList)
 | _=>false
def okX (x:V):Prop:=∀ z,x = .str z->z.length<=900
theorem AW {K:zAa} {H:Hp} {x:V} {T:String} (h:TyOf K H x (.type T)):zAE K (.type T) (.type "str")=some (CS x):=by
 cases h with
 | non=>kernel_rfl
 | bl b=>kernel_rfl
 | int i=>kernel_rfl
 | str i=>kernel_rfl
 | flt i=>kernel_rfl
 | lst e=>kernel_rfl
 | frz e=>kernel_rfl
 | tup e=>kernel_rfl
 | dK e=>kernel_rfl
 | dT e=>kernel_rfl
def U0:Sp:=fun vs H Q _=>∃ l,vs=[.str (tx l)]/\Q (.bl (decide (Ik l))) H
def Tp (K:zAa):Sp:=fun vs H Q _=>∃ x T,vs=[x]/\TyOf K H x (.type T)/\okX x/\Q (.bl (nameV x)) H
section
seal L2.PS L2.PSs L2.PE
variable {P:Program} {w:World} {K:zAa} {mg:Str->Option Value} {base:Heap}
theorem Jb:Aw ["text", "sign"] ["text"] (Ar Do):=by injections
theorem Io {f:Addr} {fd:zCx} (F:Fun K "has_letters_alone" "has_letters_alone" Do f fd) (T:Txt K mg):FnOk P w K mg base Da 1 f fd ["text"] U0:=by
 have sc:=Jb;bv_omega
 ·obtain⟨_,rfl,_⟩:=h
  rfl
 obtain⟨l,rfl,q⟩:=h;refine⟨_,(Aj (Cg PassesOwn.never rfl (DF (pv 0)) (Ax (i:=1) sc.nd rfl (Or.inl rfl))
    (An (Cd (Bd O0 (pv 1) (Fl T.g_LETTERS rfl) rfl)
    (An (Az Dr))
    Bm)))
   (An (Az Dr))),?_⟩
 refine (vE rfl (vE rfl (AF (l:=l) (fun i σ H2=>((∃ o,σ=[some (.str (tx l)),o])/\H2=H)/\∀ j c,j<i->l[j]?=some c->Kf c) ⟨⟨⟨none,rfl⟩,rfl⟩,fun _ _ z=>absurd z (zBp _)⟩ ?_ ?_)))
 ·rintro i c σ H2 hi ⟨⟨⟨o,rfl⟩,rfl⟩,good⟩
  refine (vE rfl ⟨c,_,rfl,rfl,vE rfl ?_⟩);by_cases hc:Kf c
  ·refine nF (let_in.mpr hc) ⟨⟨⟨_,rfl⟩,rfl⟩,fun j d hj hd=>?_⟩
   by_cases e:j=i
   ·subst e
    rw[hi] at hd;cases hd;exact hc
   ·exact good j d (by lia) hd
  ·refine nT (fun z=>hc (let_in.mp z)) ?_
   have n:¬ Ik l:=fun z=>hc (z c (zAB hi));rw[decide_eq_false n] at q;exact q
 ·rintro σ H2 ⟨⟨⟨o,rfl⟩,rfl⟩,good⟩
  have all:Ik l:=fun c hc=>by
   obtain⟨j,hj,e⟩:=zBq hc;exact good j c hj (by rw[zAn hj,e])
  rw[decide_eq_true all] at q;exact q
theorem B5:Aw ["thing"] ["thing"] (Ar Mq):=by injections
theorem Zq {f:Addr} {fd:zCx} (F:Fun K "is_name" "is_name" Mq f fd) (T:Txt K mg) (Chas_letters_alone:Cr P w K mg base 1 "has_letters_alone" ["text"] U0):FnOk P w K mg base Da 2 f fd ["thing"] (Tp K):=by
 have sc:=B5;bv_omega
 ·obtain⟨_,_,rfl,_⟩:=h
  rfl
 obtain⟨x,ty,rfl,hty,ok,q⟩:=h;refine⟨_,(Aj (Cd (Fv (Dw (Bb Gd rfl T.n_isinstance (show zCw _=some (.builtin "isinstance") from rfl) (Aa (pv 0) (Aa (Xf "str" rfl T.n_str rfl) Ah)))))
    (An (Az Dr))
    Bm)
   (An (Az (Qt (Ox Ij Ij Ao (Bb Hv rfl T.n_len (show zCw _=some (.builtin "len") from rfl) (Aa (pv 0) Ah)) (Cu T.g_LONGEST_NAME rfl)) (Qv (Av Chas_letters_alone (hr.mono (by decide)) rfl (Aa (pv 0) Ah))))))),?_⟩
 refine (vE rfl ⟨_,_,_,_,_,rfl,Qr,hty,AW hty,_,rfl,?_⟩);cases x with
 | str z=>
  have hz:=ok z rfl;have ez:tx z.cps.toList=z:=GL z;refine Dk (vE rfl (vE rfl ⟨Bk (by lia),?_⟩));have lz:(z.length:Int)=(z.cps.toList.length:Int):=by rw[<- Mn,ez]
  refine (vF rfl rfl (vE rfl ?_));by_cases c1:1<=(z.length:Int)
  ·refine dT c1 (vF rfl rfl (vE rfl ?_))
   by_cases c2:(z.length:Int)<=8
   ·refine dT c2 (vE rfl ⟨z.cps.toList,by rw[ez]; rfl,?_⟩)
    have e:decide (Xq z.cps.toList)=decide (Ik z.cps.toList):=by
     by_cases a:Ik z.cps.toList
     ·rw[decide_eq_true a,decide_eq_true (show Xq _ from ⟨⟨by lia,by lia⟩,a⟩)]
     ·rw[decide_eq_false a,decide_eq_false (fun y=>a y.2)]
    rw[<- e];exact q
   ·refine dF c2 ?_
    rw[show nameV (.str z)=false from decide_eq_false (fun y=>c2 (by have:=y.1.2; lia))] at q;exact q
  ·refine dF c1 (vE rfl (Dk ?_))
   rw[show nameV (.str z)=false from decide_eq_false (fun y=>c1 (by have:=y.1.1; lia))] at q;exact q
 | _=>exact Jr q
end
theorem Ea {C:Addr} {H H2:Hp} {x dx:Addr} (nx:H x=none) (ndx:H dx=none) (kp:∀ b o,(upd (upd H dx (.own x)) x (.ins C dx [])) b=some o->b≠x->H2 b=some o):Same H H2:=fun b o e=>
 kp b o (by rw[Aq (Ap e nx),Aq (Ap e ndx)]; exact e) (Ap e nx)
def KB (p:Addr) (H H':Hp):Prop:=∀ b o,H b=some o->b≠p->H' b=some o
theorem KB.upd {p:Addr} {H H':Hp} (k:KB p H H') (o:HO):KB p H (upd H' p o):=fun b u e n=>by rw[Aq n]; exact k b u e n
theorem KB.same {p:Addr} {H H' H'':Hp} (k:KB p H H') (s:Same H' H''):KB p H H'':=fun b u e n=>s _ _ (k b u e n)
theorem KB.free {p:Addr} {H H':Hp} {b:Addr} (k:KB p H H') (n:b≠p) (h:H' b=none):H b=none:=by
 cases z:H b with
 | none=>rfl
 | some o=>
  have:=k _ _ z n;rw[h] at this;cases this
theorem FK {i:Nat} {v:V} {nx:St->Hp->Prop} {σ:St} {H:Hp} (σ':St) (e:σ.set i (some v)=σ') (h:nx σ' H):Df i v σ H nx:=by
 unfold Df;rw[e];exact h
theorem W3 {t u:TS} {D:Jm} {σ:St} {H:Hp} (h:∀ N:St->Hp->Prop,N=u D->t { D with nx:=N } σ H):G7 t u D σ H:=h _ rfl
theorem BZ {i:Nat} {v:V} {N:St->Hp->Prop} {σ:St} {H:Hp} {t u:TS} {D:Jm} (eN:N=G7 t u D) (σ':St) (e:σ.set i (some v)=σ') (h:∀ N:St->Hp->Prop,N=u D->t { D with nx:=N } σ' H):Df i v σ H N:=by
 subst eN;exact FK σ' e (h _ rfl)
theorem K6 {N:St->Hp->Prop} {σ:St} {H:Hp} {t u:TS} {D:Jm} (eN:N=G7 t u D) (h:∀ N:St->Hp->Prop,N=u D->t { D with nx:=N } σ H):N σ H:=by
 subst eN;exact h _ rfl
theorem x2 {α0 α1:Type} {P:α0->α1->Prop} (a0:α0) (a1:α1) (h:P a0 a1):∃ a0 a1,P a0 a1:=⟨a0,a1,h⟩
theorem x3 {α0 α1 α2:Type} {P:α0->α1->α2->Prop} (a0:α0) (a1:α1) (a2:α2) (h:P a0 a1 a2):∃ a0 a1 a2,P a0 a1 a2:=⟨a0,a1,a2,h⟩
theorem x4 {α0 α1 α2 α3:Type} {P:α0->α1->α2->α3->Prop} (a0:α0) (a1:α1) (a2:α2) (a3:α3) (h:P a0 a1 a2 a3):∃ a0 a1 a2 a3,P a0 a1 a2 a3:=⟨a0,a1,a2,a3,h⟩
theorem x5 {α0 α1 α2 α3 α4:Type} {P:α0->α1->α2->α3->α4->Prop} (a0:α0) (a1:α1) (a2:α2) (a3:α3) (a4:α4) (h:P a0 a1 a2 a3 a4):∃ a0 a1 a2 a3 a4,P a0 a1 a2 a3 a4:=⟨a0,a1,a2,a3,a4,h⟩
theorem c3 {p0 p1 p2:Prop} (h0:p0) (h1:p1) (h2:p2):p0/\p1/\p2:=⟨h0,h1,h2⟩
theorem c4 {p0 p1 p2 p3:Prop} (h0:p0) (h1:p1) (h2:p2) (h3:p3):p0/\p1/\p2/\p3:=⟨h0,h1,h2,h3⟩
theorem c5 {p0 p1 p2 p3 p4:Prop} (h0:p0) (h1:p1) (h2:p2) (h3:p3) (h4:p4):p0/\p1/\p2/\p3/\p4:=⟨h0,h1,h2,h3,h4⟩
theorem c6 {p0 p1 p2 p3 p4 p5:Prop} (h0:p0) (h1:p1) (h2:p2) (h3:p3) (h4:p4) (h5:p5):p0/\p1/\p2/\p3/\p4/\p5:=⟨h0,h1,h2,h3,h4,h5⟩
theorem c7 {p0 p1 p2 p3 p4 p5 p6:Prop} (h0:p0) (h1:p1) (h2:p2) (h3:p3) (h4:p4) (h5:p5) (h6:p6):p0/\p1/\p2/\p3/\p4/\p5/\p6:=⟨h0,h1,h2,h3,h4,h5,h6⟩
theorem JW {p0 p1 p2 p3 p4 p5 p6 p7 p8 p9:Prop} (h0:p0) (h1:p1) (h2:p2) (h3:p3) (h4:p4) (h5:p5) (h6:p6) (h7:p7) (h8:p8) (h9:p9):p0/\p1/\p2/\p3/\p4/\p5/\p6/\p7/\p8/\p9:=⟨h0,h1,h2,h3,h4,h5,h6,h7,h8,h9⟩
theorem Gv {α:Type} {l:List α} {i:Nat} {x:α} (h:l[i]?=some x):l.take (i+1)=l.take i++[x]:=by
 rw[zCj,h];rfl
theorem f1 {f g:Str} {v:V} {fs:List (Str×V)} (h:¬ g=f):(Bi f v fs).lookup g=fs.lookup g:=by rw[Bl,if_neg h]
theorem f0 {f:Str} {v:V} {fs:List (Str×V)}:(Bi f v fs).lookup f=some v:=by rw[Bl,if_pos rfl]
theorem Er (f:Str) (v:V):∀ fs:List (Str×V),(Bi f v fs).length<=fs.length+1
 | []=>zAf _
 | (g,u)::fs=>by
  unfold Bi
  split
  ·simp
  ·have:=Er f v fs
   simp only [zAl]
   lia
def noM5 (fs:List (Str×V)):Prop:=fs.lookup ("asks" : Str)=none/\fs.lookup ("spans" : Str)=none/\fs.lookup ("window" : Str)=none/\fs.lookup ("parts" : Str)=none/\fs.lookup ("rest" : Str)=none
theorem noM5.put {f:Str} {v:V} {fs:List (Str×V)} (h:noM5 fs) (n1:¬ ("asks" : Str)=f) (n2:¬ ("spans" : Str)=f) (n3:¬ ("window" : Str)=f) (n4:¬ ("parts" : Str)=f) (n5:¬ ("rest" : Str)=f):noM5 (Bi f v fs):=
 ⟨by rw[f1 n1]; exact h.1,by rw[f1 n2]; exact h.2.1,by rw[f1 n3]; exact h.2.2.1,by rw[f1 n4]; exact h.2.2.2.1,by rw[f1 n5]; exact h.2.2.2.2⟩
def Ui:List V:=[.int 1]
def Y5:Sp:=fun vs H Q _=>∃ a,vs=[.ref a]/\H a=some (.lst Ui)/\Q (.bl true) H
def Zf:Sp:=fun vs H Q _=>vs=[.int 1,.int 0,.int 1,.int 0]/\Q (.bl true) H
def A1:Sp:=fun vs H Q _=>vs=[.int 1,.int 0,.int 1]/\Q (.int 1) H
def Q1:Sp:=fun vs H Q _=>∃ a b,vs=[.ref a,.ref b,.int 0]/\H a=some (.lst Ui)/\H b=some (.lst [.int 0])/\∀ H',Same H H'->Q (.int 0) H'
def V8:Sp:=fun vs H Q _=>∃ a,vs=[.ref a]/\H a=some (.lst Ui)/\∀ r H',Same H H'->Q (.ref r) H'
def Y6 (C:Addr):Sp:=fun vs H Q _=>∃ p dx a,vs=[.ref p,.ref a]/\H p=some (.ins C dx [])/\H a=some (.lst Ui)/\∀ H',KB p H H'->Q .non H'
def V1:Sp:=fun vs H Q _=>∃ a nm,vs=[.ref a]/\H a=some (.lst [.str nm])/\nameV (.str nm)=true/\nm.length<=8/\∀ H',Same H H'->Q .non H'
section
seal L2.PS L2.PSs L2.PE L2.PA
variable {P:Program} {w:World} {K:zAa} {mg:Str->Option Value} {base:Heap} {Ab Ad Ae Ag Al Ak Am Ac As At:Addr}
theorem Qu:Aw ["thing", "weight"] ["thing"] (Ar Gp):=by injections
theorem Pk {f:Addr} {fd:zCx} (F:Fun K "are_weights" "are_weights" Gp f fd) (T:Txt K mg) (Cis_whole:Cr P w K mg base 1 "is_whole" ["thing"] (Op K)):FnOk P w K mg base Da 2 f fd ["thing"] Y5:=by
 have sc:=Qu;bv_omega
 ·obtain⟨_,rfl,_⟩:=h
  rfl
 obtain⟨a,rfl,ha,q⟩:=h;refine⟨_,(Aj (Cd (Fv (Dw (Bb Gd rfl T.n_isinstance (show zCw _=some (.builtin "isinstance") from rfl) (Aa (pv 0) (Aa (Xf "list" rfl T.n_list rfl) Ah)))))
    (An (Az Dr))
    Bm)
   (Aj (Cd (PW.pt (Qa (Bd Hx (Bb Bh rfl T.n_len (show zCw _=some (.builtin "len") from rfl) (Aa (pv 0) Ah)) Ao (Bf _)) (Mc (Bd Ie (Bb Bh rfl T.n_len (show zCw _=some (.builtin "len") from rfl) (Aa (pv 0) Ah)) (Cu T.g_MOST_PLACES rfl) (Bf _)))))
    (An (Az Dr))
    Bm)
   (Aj (Cg PassesOwn.never rfl (Bg (pv 0)) (Ax (i:=1) sc.nd rfl (Or.inl rfl))
    (An (Cd (PW.pt (Qa (Fv (Dw (Av Cis_whole (hr.mono (by decide)) rfl (Aa (pv 1) Ah)))) (Mc (Bd Hx (pv 1) Ao (Bf _)))))
    (An (Az Dr))
    Bm)))
   (An (Az (Eh Ij (Bb (Qk rfl) rfl T.n_sum (show zCw _=some (.builtin "sum") from rfl) (Aa (pv 0) Ah)) (Cu T.g_MOST_TURNS rfl) (Bf _))))))),?_⟩
 refine W3 fun N eN=>?_;refine (vE rfl (x5 _ _ _ _ _ ⟨rfl,Qr,.lst ha,CT,_,rfl,Dk ?_⟩));refine K6 eN fun N eN=>?_;refine (vE rfl (x2 a _ (c3 rfl (.inl (SqL.of ha)) (vF rfl rfl (vE rfl (dF (by decide) (vE rfl (x2 a _ (c3 rfl (.inl (SqL.of ha)) (vF rfl rfl (vE rfl (dF (by decide) ?_))))))))))));refine K6 eN fun N eN=>?_;refine (vE rfl ⟨a,rfl,⟨_,SqL.of ha⟩,?_⟩);refine Cf (K:=K) (a:=a) (xs:=Ui) (fun i σ H2=>(∃ o,σ=[some (.ref a),o])/\H2=H) ⟨⟨none,rfl⟩,rfl⟩ (fun i σ H2 _ hh=>by rw[hh.2]; exact SqL.of ha) ?_ ?_
 ·rintro i x σ H2 hi ⟨⟨o,rfl⟩,rfl⟩
  obtain rfl:x = .int 1:=by
   match i,hi with
   | 0,h=>cases h; rfl
   | i+1,h=>simp [Ui] at h
  subst eN; refine FK [some (.ref a),some (.int 1)] rfl ?_;exact (vE rfl (x2 _ _ ⟨rfl,.int 1,_,rfl,Dk (vE rfl (vF rfl rfl (vE rfl (dF (by decide) ⟨⟨_,rfl⟩,rfl⟩))))⟩))
 ·rintro σ H2 ⟨⟨o,rfl⟩,rfl⟩
  subst eN;exact (vE rfl ⟨a,[1],rfl,SqL.of ha,vF rfl rfl q⟩)
theorem Xx:Aw ["weight", "dealt", "total", "turn"] ["weight", "dealt", "total", "turn"] (Ar Kh):=by injections
theorem Xb {f:Addr} {fd:zCx} (F:Fun K "may_have" "may_have" Kh f fd) (T:Txt K mg):FnOk P w K mg base Da 1 f fd ["weight", "dealt", "total", "turn"] Zf:=by
 have sc:=Xx;bv_omega
 ·obtain⟨rfl,_⟩:=h
  rfl
 obtain⟨rfl,q⟩:=h;refine⟨_,(An (Az (Eh Hx (Bc Em (pv 1) (pv 2)) (Bc Em (pv 0) (Bc Bw (pv 3) Ao)) (Bf _)))),?_⟩;exact (vE rfl (vE rfl (vF rfl rfl ⟨.inl ⟨by decide,by decide⟩,vE rfl (vE rfl (vF rfl rfl (vF rfl rfl ⟨.inl ⟨by decide,by decide⟩,vF rfl rfl q⟩)))⟩)))
theorem G3:Aw ["weight", "dealt", "total"] ["weight", "dealt", "total"] (Ar Py):=by injections
theorem M5 {f:Addr} {fd:zCx} (F:Fun K "due_by" "due_by" Py f fd) (T:Txt K mg):FnOk P w K mg base Da 1 f fd ["weight", "dealt", "total"] A1:=by
 have sc:=G3;bv_omega
 ·obtain⟨rfl,_⟩:=h
  rfl
 obtain⟨rfl,q⟩:=h;refine⟨_,(An (Az (Bc D3 (Bc Ic (Bc Bw (Bc Em (Bc Bw (pv 1) Ao) (pv 2)) (pv 0)) Ao) (pv 0)))),?_⟩;exact (vE rfl (vF rfl rfl (vE rfl (vF rfl rfl ⟨.inl ⟨by decide,by decide⟩,vE rfl (vF rfl rfl (vF rfl rfl (vE rfl (vF rfl rfl ⟨⟨by decide,by decide⟩,q⟩))))⟩))))
theorem Nc:Aw ["weights", "dealt", "turn", "total", "places", "best", "place"] ["weights", "dealt", "turn"] (Ar Ev):=by injections
theorem Mh {f:Addr} {fd:zCx} (F:Fun K "place_of_turn" "place_of_turn" Ev f fd) (T:Txt K mg) (Cmay_have:Cr P w K mg base 1 "may_have" ["weight", "dealt", "total", "turn"] Zf) (Cdue_by:Cr P w K mg base 1 "due_by" ["weight", "dealt", "total"] A1):FnOk P w K mg base Da 2 f fd ["weights", "dealt", "turn"] Q1:=by
 have sc:=Nc;bv_omega
 ·obtain⟨_,_,rfl,_⟩:=h
  rfl
 obtain⟨a,b,rfl,ha,hb,q⟩:=h;refine⟨_,(Aj (Ba (i:=3) sc.nd rfl (Or.inr rfl) (Bb (Qk rfl) rfl T.n_sum (show zCw _=some (.builtin "sum") from rfl) (Aa (pv 0) Ah)))
   (Aj (Cs (NC:=["k", "total", "turn", "weights", "dealt"]) (own:=["k"]) (cs:=["total", "turn", "weights", "dealt"]) (ix:=[3,2,0,1]) (j:=4) sc.nd rfl rfl rfl (CompScope.of rfl) rfl ⟨⟨rfl,.inl rfl,rfl⟩,⟨⟨rfl,.inl rfl,rfl⟩,⟨⟨rfl,.inl rfl,rfl⟩,⟨⟨rfl,.inl rfl,rfl⟩,trivial⟩⟩⟩⟩ (Dl rfl T.n_range (Aa (Bb Bh rfl T.n_len (show zCw _=some (.builtin "len") from rfl) (Aa (pv 0) Ah)) Ah)) (fun _ _ _=>(Ax (i:=0) (show (["k", "total", "turn", "weights", "dealt"]:List Str).Nodup from by ac_nf) rfl (Or.inl rfl))) (fun _ _ _=>(Ef (Dw (Av Cmay_have (hr.mono (by decide)) rfl (Aa (Be (We (K:=K) rfl) (pv 3) (pv 0) (fun _ _=>rfl)) (Aa (Be (We (K:=K) rfl) (pv 4) (pv 0) (fun _ _=>rfl)) (Aa (pv 1) (Aa (pv 2) Ah)))))))) (fun _ _ _=>(pv 0)))
   (Aj (Ba (i:=5) sc.nd rfl (Or.inl rfl) (Be Bx (pv 4) Ao (fun _ _=>rfl)))
   (Aj (Cg PassesOwn.never rfl (Bg (pv 4)) (Ax (i:=6) sc.nd rfl (Or.inl rfl))
    (An (Cd (Bd Hx (Av Cdue_by (hr.mono (by decide)) rfl (Aa (Be Bx (pv 0) (pv 6) (fun _ _=>rfl)) (Aa (Be Bx (pv 1) (pv 6) (fun _ _=>rfl)) (Aa (pv 3) Ah)))) (Av Cdue_by (hr.mono (by decide)) rfl (Aa (Be Bx (pv 0) (pv 5) (fun _ _=>rfl)) (Aa (Be Bx (pv 1) (pv 5) (fun _ _=>rfl)) (Aa (pv 3) Ah)))) (Bf _))
    (An (Ba (i:=5) sc.nd rfl (Or.inl rfl) (pv 6)))
    Bm)))
   (An (Az (pv 5))))))),?_⟩
 refine W3 fun N eN=>?_;refine (vE rfl ⟨a,[1],rfl,SqL.of ha,?_⟩);refine BZ eN [some (.ref a),some (.ref b),some (.int 0),some (.int 1),none,none,none] rfl fun N eN=>?_;refine (vE rfl (x2 a _ (c3 rfl (.inl (SqL.of ha)) (vE rfl ⟨by decide,by decide,fun pl npl=>?_⟩))));refine Dx (lo:=0) (n:=1) (fun i ys H2=>ys=(if i=0 then [] else [V.int 0])/\H2 pl=some (.lst ys)/\Same H H2) ⟨rfl,Af,Ai npl _⟩ (fun i ys H2 hi ⟨e,h1,_⟩=>⟨h1,by rw[e]; split <;> simp; lia⟩) (by rw[zCv]; decide) (fun i ys H2 hi ⟨e,h1,s2⟩=>?_) (fun ys H2 ⟨e,h1,s2⟩=>?_)
 ·obtain rfl:i=0:=by lia
  rw[if_pos rfl] at e;subst e;exact (vE rfl (vE rfl (vI rfl rfl (SqL.of (s2 _ _ ha)) rfl (vE rfl (vE rfl (vI rfl rfl (SqL.of (s2 _ _ hb)) rfl (vE rfl (vE rfl ⟨rfl,vE rfl (Jr (vE rfl ⟨h1,rfl,rfl,Af,fun c o z=>by rw[Aq (Ap z npl)]; exact s2 c o z⟩))⟩))))))))
 rw[if_neg (by decide)] at e;subst e;refine BZ eN [some (.ref a),some (.ref b),some (.int 0),some (.int 1),some (.ref pl),none,none] rfl fun N eN=>?_;refine (vE rfl (vI rfl rfl (SqL.of h1) rfl ?_));refine BZ eN [some (.ref a),some (.ref b),some (.int 0),some (.int 1),some (.ref pl),some (.int 0),none] rfl fun N eN=>?_;refine (vE rfl ⟨pl,rfl,⟨_,SqL.of h1⟩,?_⟩);refine Cf (K:=K) (a:=pl) (xs:=[V.int 0]) (fun i σ H3=>(∃ o,σ=[some (.ref a),some (.ref b),some (.int 0),some (.int 1),some (.ref pl),some (.int 0),o])/\H3=H2) ⟨⟨none,rfl⟩,rfl⟩ (fun i σ H3 _ hh=>by rw[hh.2]; exact SqL.of h1) ?_ ?_
 ·rintro i x σ H3 hi ⟨⟨o,rfl⟩,rfl⟩
  obtain rfl:x = .int 0:=by
   match i,hi with
   | 0,h=>cases h; rfl
   | i+1,h=>simp at h
  subst eN; refine FK [some (.ref a),some (.ref b),some (.int 0),some (.int 1),some (.ref pl),some (.int 0),some (.int 0)] rfl ?_;have A:=SqL.of (K:=K) (s2 _ _ ha);have B:=SqL.of (K:=K) (s2 _ _ hb);exact (vE rfl (vE rfl (x4 a _ _ _ (c5 rfl rfl A rfl (vE rfl (vE rfl (x4 b _ _ _ (c5 rfl rfl B rfl (vE rfl ⟨rfl,vE rfl (vE rfl (x4 a _ _ _ (c5 rfl rfl A rfl (vE rfl (vE rfl (x4 b _ _ _ (c5 rfl rfl B rfl (vE rfl ⟨rfl,vF rfl rfl (vE rfl (dF (by decide) ⟨⟨_,rfl⟩,rfl⟩))⟩))))))))⟩)))))))))
 ·rintro σ H3 ⟨⟨o,rfl⟩,rfl⟩
  subst eN;exact (vE rfl (q _ s2))
theorem R8:Aw ["weights", "dealt", "wheel", "turn", "place"] ["weights"] (Ar Tt):=by injections
theorem X1 {f:Addr} {fd:zCx} (F:Fun K "turns" "turns" Tt f fd) (T:Txt K mg) (Care_weights:Cr P w K mg base 2 "are_weights" ["thing"] Y5) (Cplace_of_turn:Cr P w K mg base 2 "place_of_turn" ["weights", "dealt", "turn"] Q1):FnOk P w K mg base Da 3 f fd ["weights"] V8:=by
 have sc:=R8;bv_omega
 ·obtain⟨_,rfl,_⟩:=h
  rfl
 obtain⟨a,rfl,ha,q⟩:=h;refine⟨_,(Aj (Cd (Fv (Dw (Av Care_weights (hr.mono (by decide)) rfl (Aa (pv 0) Ah))))
    (An Gy)
    Bm)
   (Aj (Cs (NC:=["weight"]) (own:=["weight"]) (cs:=[]) (ix:=[]) (j:=1) sc.nd rfl rfl rfl (CompScope.of rfl) rfl trivial (Bg (pv 0)) (fun _ _ _=>(Ax (i:=0) (show (["weight"]:List Str).Nodup from by ac_nf) rfl (Or.inl rfl))) (fun _ _ _=>By) (fun _ _ _=>Ao))
   (Aj (Ba (i:=2) sc.nd rfl (Or.inl rfl) (Bp Ah))
   (Aj (Cg PassesOwn.never rfl (Dl rfl T.n_range (Aa (Bb (Qk rfl) rfl T.n_sum (show zCw _=some (.builtin "sum") from rfl) (Aa (pv 0) Ah)) Ah)) (Ax (i:=3) sc.nd rfl (Or.inl rfl))
    (Aj (Ba (i:=4) sc.nd rfl (Or.inl rfl) (Av Cplace_of_turn (hr.mono (by decide)) rfl (Aa (pv 0) (Aa (pv 1) (Aa (pv 3) Ah)))))
   (Aj (DX (Bc Bw (Be Bx (pv 1) (pv 4) (fun _ _=>rfl)) Ao) (EH (pv 1) (pv 4) R9))
   (An (Ck (Fu PySem.F.plainAttrs_list PySem.F.slot_list_append PySem.F.type_list_append Ek (pv 2) (Aa (pv 4) Ah)))))))
   (An (Az (pv 2))))))),?_⟩
 refine W3 fun N eN=>?_;refine (vE rfl ⟨a,rfl,ha,_,rfl,Dk ?_⟩);refine K6 eN fun N eN=>?_;refine (vE rfl ⟨a,rfl,⟨_,SqL.of ha⟩,fun de nde=>?_⟩);refine Bo (K:=K) (a:=a) (xs:=Ui) (fun i ys H2=>ys=(if i=0 then [] else [V.int 0])/\H2 de=some (.lst ys)/\Same H H2) ⟨rfl,Af,Ai nde _⟩ (fun i ys H2 hi ⟨e,h1,s2⟩=>⟨h1,by rw[e]; split <;> simp; lia,SqL.of (s2 _ _ ha)⟩) (by rw[zCv]; decide) (fun i x ys H2 hi ⟨e,h1,s2⟩=>?_) (fun ys H2 ⟨e,h1,s2⟩=>?_)
 ·have il:=(zAj.mp hi).1
  obtain rfl:i=0:=by have:i<1:=il; lia
  rw[if_pos rfl] at e;subst e;exact⟨h1,rfl,rfl,Af,fun c o z=>by rw[Aq (Ap z nde)]; exact s2 c o z⟩
 rw[if_neg (by decide)] at e;subst e;refine BZ eN [some (.ref a),some (.ref de),none,none,none] rfl fun N eN=>?_;refine⟨zAk _,fun wh nwh=>?_⟩;have s3:=Ai nwh (.lst []);have h3:upd H2 wh (.lst []) wh=some (.lst []):=Af;have nwd:de≠wh:=Ap h1 nwh;generalize upd H2 wh (.lst [])=H3 at s3 h3;refine BZ eN [some (.ref a),some (.ref de),some (.ref wh),none,none] rfl fun N eN=>?_;have S3:=s2.trans s3;refine (vE rfl ⟨a,[1],rfl,SqL.of (S3 _ _ ha),vE rfl ⟨by decide,by decide,?_⟩⟩);refine Td (lo:=0) (n:=1) (fun i σ H4=>(∃ o3 o4,σ=[some (.ref a),some (.ref de),some (.ref wh),o3,o4])/\(i=0->H4=H3)/\Same H H4) ⟨⟨none,none,rfl⟩,fun _=>rfl,S3⟩ ?_ ?_
 ·rintro i σ H4 hi ⟨⟨o3,o4,rfl⟩,e4,s4⟩
  obtain rfl:i=0:=by lia
  obtain rfl:=e4 rfl;subst eN; refine FK [some (.ref a),some (.ref de),some (.ref wh),some (.int 0),o4] rfl ?_;refine (vE rfl (vE rfl (vE rfl (x2 a de (c4 rfl (S3 _ _ ha) (s3 _ _ h1) (fun H5 s5=>?_))))));subst eN; refine FK [some (.ref a),some (.ref de),some (.ref wh),some (.int 0),some (.int 0)] rfl ?_;have hde:=s5 _ _ (s3 _ _ h1);refine (vE rfl (vE rfl (vI rfl rfl (SqL.of hde) rfl (vF rfl rfl (vE rfl (vE rfl (x4 de _ _ 0 (c5 rfl rfl hde rfl ?_))))))));have hwh:∀ o,upd H5 de o wh=some (.lst []):=fun o=>by rw[Aq nwd.symm]; exact s5 _ _ h3
  refine (vE rfl ⟨.inl ⟨rfl,_,SqL.of (hwh _)⟩,vE rfl (x3 wh _ _ (c7 rfl rfl (hwh _) (by rw[zCv]; decide) ⟨_,_,rfl⟩ (fun e=>by lia) (fun c o z=>?_)))⟩);have fde:H de=none:=nde;rw[Aq (Ap z (s2.free nwh)),Aq (Ap z fde)];exact s5 _ _ (S3 c o z)
 ·rintro σ H4 ⟨⟨o3,o4,rfl⟩,_,s4⟩
  subst eN;exact (vE rfl (q wh H4 s4))
theorem Lu:Aw ["self", "weights"] ["self", "weights"] (Ar Ew):=by injections
theorem Lz {f:Addr} {fd:zCx} (F:Fun K "__init__" "Deal.__init__" Ew f fd) (T:Txt K mg) (L:Kl K mg Ab Ad Ae Ag Al Ak Am Ac As At) (Cturns:Cr P w K mg base 3 "turns" ["weights"] V8):FnOk P w K mg base Da 4 f fd ["self", "weights"] (Y6 Am):=by
 have sc:=Lu;bv_omega
 ·obtain⟨_,_,_,rfl,_⟩:=h
  rfl
 obtain⟨p,dx,a,rfl,hp,ha,q⟩:=h;refine⟨_,(Aj (Di (pv 0) (Av Cturns (hr.mono (by decide)) rfl (Aa (pv 1) Ah)) rfl)
   (An (Di (pv 0) (El Ei rfl T.n_list (show zCw _=some (.type "list") from rfl) (Aa (pv 1) Ah)) rfl))),?_⟩
 have nap:a≠p:=Ii ha hp (by intro z; cases z);have k0:KB p H H:=fun _ _ e _=>e;refine (vE rfl ⟨a,rfl,ha,fun wh H1 s1=>?_⟩);refine (vE rfl ⟨p,Am,dx,[],rfl,s1 _ _ hp,L.cl_Deal,L.na_Deal_wheel,(by show 0<1000; decide),?_⟩);have k2:=(k0.same s1).upd (.ins Am dx (Bi "wheel" (.ref wh) []));refine (vE rfl (x2 a _ (c3 rfl (.inl (SqL.of (k2 _ _ ha nap))) (fun wt nwt=>?_))));have hpt:p≠wt:=fun z=>by rw[<- z,Af] at nwt; cases nwt
 refine (vE rfl (x4 p Am dx _ (c6 rfl (by rw[Aq hpt,Af]) L.cl_Deal L.na_Deal_weights (by show 1<1000; decide) ?_)));exact q _ ((k2.same (Ai nwt _)).upd _)
theorem Og:Aw ["houses", "k", "house"] ["houses"] (Ar Fx):=by injections
theorem Oi {f:Addr} {fd:zCx} (F:Fun K "check_houses" "check_houses" Fx f fd) (T:Txt K mg) (Cis_name:Cr P w K mg base 2 "is_name" ["thing"] (Tp K)):FnOk P w K mg base Da 3 f fd ["houses"] V1:=by
 have sc:=Og;bv_omega
 ·obtain⟨_,_,rfl,_⟩:=h
  rfl
 obtain⟨a,nm,rfl,ha,hn,hl8,q⟩:=h;refine⟨_,(An (Cg PassesOwn.never rfl (Ld rfl T.n_enumerate (Aa (pv 0) Ah)) (Ig (n:=2) rfl (Bn (Ax (i:=1) sc.nd rfl (Or.inl rfl)) (Bn (Ax (i:=2) sc.nd rfl (Or.inl rfl)) Ds)))
    (An (Cd (PW.pt (Qa (Fv (Dw (Av Cis_name (hr.mono (by decide)) rfl (Aa (pv 2) Ah)))) (Mc (Bd Sg (pv 2) (Pd C0 (pv 0) E6 (Oq (pv 1))) rfl))))
    (An Gy)
    Bm)))),?_⟩
 refine (vE rfl ⟨a,rfl,⟨_,SqL.of ha⟩,Pz (K:=K) (a:=a) (xs:=[V.str nm]) (fun i σ H2=>(∃ o1 o2,σ=[some (.ref a),o1,o2])/\Same H H2) ⟨⟨none,none,rfl⟩,fun _ _ z=>z⟩ (fun i σ H2 _ hh=>SqL.of (hh.2 _ _ ha)) ?_ ?_⟩)
 ·rintro i x σ H2 t hi ⟨⟨o1,o2,rfl⟩,s2⟩ nt
  have il:=(zAj.mp hi).1;obtain rfl:i=0:=by have:i<1:=il; lia
  obtain rfl:x = .str nm:=by cases hi; rfl
  have s3:=s2.trans (Ai nt (.tup [V.int 0,.str nm]));have q3:nameV (.str nm)=true:=hn;refine (vE rfl (x2 _ _ ⟨rfl,.str _,(fun y e=>by cases e; exact zAA hl8 (by decide)),_,rfl,?_⟩));rw[q3];refine Dk (vE rfl (vE rfl (vE rfl (vE rfl (x2 a _ (c3 rfl (SqL.of (s3 _ _ ha)) (fun m nmm=>⟨m,[],rfl,.inl (SqL.of Af),rfl,rfl,vE rfl (Dk ⟨⟨_,_,rfl⟩,s3.trans (Ai nmm _)⟩)⟩)))))))
 ·rintro σ H2 ⟨⟨o1,o2,rfl⟩,s2⟩
  exact q _ s2
end
def A0 (C:Addr):Sp:=fun vs H Q _=>∃ p dx nm cd,∃ wv:Bool,vs=[.ref p,.str nm,cd,.non,.non,.bl wv]/\H p=some (.ins C dx [])/\(nameV (.str nm)=true/\nm.length<=8/\nm ≠ "self") /\
 ∀ H' cl d0 fs,KB p H H'->H' p=some (.ins C d0 fs)->fs.lookup ("name" : Str)=some (.str nm)->fs.lookup ("condition" : Str)=some cd->fs.lookup ("clauses" : Str)=some (.ref cl)->fs.lookup ("waits" : Str)=some (.bl wv)->noM5 fs->H' cl=some (.lst [])->H cl=none->Q .non H'
section
variable {P:Program} {w:World} {K:zAa} {mg:Str->Option Value} {base:Heap} {Ab Ad Ae Ag Al Ak Am Ac As At:Addr}
theorem Ln:Aw ["self", "name", "condition", "clauses", "houses", "waits", "pairs"] ["self", "name", "condition", "clauses", "houses", "waits"] (Ar Bs):=by injections
seal L2.PS L2.PSs L2.PE L2.PA
theorem Lh {f:Addr} {fd:zCx} (F:FunD K "__init__" "Cover.__init__" Bs f fd) (T:Txt K mg) (L:Kl K mg Ab Ad Ae Ag Al Ak Am Ac As At) (Cis_name:Cr P w K mg base 2 "is_name" ["thing"] (Tp K)) (Ccheck_houses:Cr P w K mg base 3 "check_houses" ["houses"] V1)
  (KDeal:Gw P w K mg base 4 "Deal" Am ["self", "weights"] (Y6 Am)):FnOk P w K mg base Da 6 f fd ["self", "name", "condition", "clauses", "houses", "waits"] (A0 Ac):=by
 have sc:=Ln;bv_omega
 ·obtain⟨_,_,_,_,_,rfl,_⟩:=h
  rfl
 obtain⟨p,dx,nm,cd,wv,rfl,hp,⟨nx,n8,ns⟩,q⟩:=h;refine⟨_,(Aj (Cd (PW.pt (Qa (Fv (Dw (Av Cis_name (hr.mono (by decide)) rfl (Aa (pv 1) Ah)))) (Mc (Bd Gg (pv 1) (Fl T.g_COVERED_ONE rfl) (Bf _)))))
    (An Gy)
    Bm)
   (Aj (Di (pv 0) (pv 1) rfl)
   (Aj (Di (pv 0) (pv 2) rfl)
   (Aj (Di (pv 0) (Et (Bd Qq (pv 3) Gb (Bf _)) (Bp Ah) (El Ei rfl T.n_list (show zCw _=some (.type "list") from rfl) (Aa (pv 3) Ah))) rfl)
   (Aj (Cd (Bd Ie (Bb Bh rfl T.n_len (show zCw _=some (.builtin "len") from rfl) (Aa (Cc (pv 0) rfl) Ah)) (Cu T.g_MOST_CLAUSES rfl) (Bf _))
    (An Gy)
    Bm)
   (Aj (Ba (i:=6) sc.nd rfl (Or.inl rfl) (Et (Bd Qq (pv 4) Gb (Bf _)) (Bp (Aa (Cp (Aa (pv 1) (Aa Ao Ah))) Ah)) (pv 4)))
   (Aj (Di (pv 0) (Cj (NC:=["pair"]) (own:=["pair"]) (cs:=[]) (ix:=[]) rfl (CompScope.of rfl) rfl trivial (Bg (pv 6)) (fun _ _ _=>(Ax (i:=0) (show (["pair"]:List Str).Nodup from by ac_nf) rfl (Or.inl rfl))) (fun _ _ _=>By) (fun _ _ _=>(Be (Db (K:=K) rfl) (pv 0) Ao (fun _ _=>rfl)))) rfl)
   (Aj (Ck (Av Ccheck_houses (hr.mono (by decide)) rfl (Aa (Cc (pv 0) rfl) Ah)))
   (Aj (Di (pv 0) (Eu KDeal (hr.mono (by decide)) rfl (Aa (Cj (NC:=["pair"]) (own:=["pair"]) (cs:=[]) (ix:=[]) rfl (CompScope.of rfl) rfl trivial (Bg (pv 6)) (fun _ _ _=>(Ax (i:=0) (show (["pair"]:List Str).Nodup from by ac_nf) rfl (Or.inl rfl))) (fun _ _ _=>By) (fun _ _ _=>(Be (Db (K:=K) rfl) (pv 0) Ao (fun _ _=>rfl)))) Ah)) rfl)
   (An (Di (pv 0) (pv 5) rfl))))))))))),?_⟩
 refine W3 fun N eN=>?_;have k0:KB p H H:=fun _ _ e _=>e;have one:1<=sizeLine:=by rw[zCv]; decide
 have two:2<=sizeLine:=by rw[zCv]; decide
 refine (vE rfl ⟨_,_,rfl,.str nm,(fun y e=>by cases e; exact zAA n8 (by decide)),_,rfl,?_⟩);rw[nx];refine Dk (vE rfl ⟨rfl,vE rfl (dF (fun e=>ns (V.str.inj e)) ?_)⟩);refine K6 eN fun N eN=>?_;refine (vE rfl (vE rfl ⟨p,Ac,dx,[],rfl,hp,L.cl_Cover,L.na_Cover_name,by decide,?_⟩));refine K6 eN fun N eN=>?_;refine (vE rfl (vE rfl ⟨p,Ac,dx,_,rfl,Af,L.cl_Cover,L.na_Cover_condition,zCc (Er _ _ _) (by decide),?_⟩));have k2:KB p H (upd (upd H p (.ins Ac dx (Bi "name" (.str nm) []))) p (.ins Ac dx (Bi "condition" cd (Bi "name" (.str nm) [])))):=KB.upd (KB.upd k0 _) _;have e2:upd (upd H p (.ins Ac dx (Bi "name" (.str nm) []))) p (.ins Ac dx (Bi "condition" cd (Bi "name" (.str nm) []))) p=some (.ins Ac dx (Bi "condition" cd (Bi "name" (.str nm) []))):=Af;have g2:(Bi "condition" cd (Bi "name" (.str nm) [])).length<=2:=zAA (Er _ _ _) (Nat.succ_le_succ (Er _ _ _));have n2:(Bi "condition" cd (Bi "name" (.str nm) [])).lookup ("name" : Str)=some (.str nm)/\(Bi "condition" cd (Bi "name" (.str nm) [])).lookup ("condition" : Str)=some cd:=⟨by rw[f1 (by ac_nf),f0],f0⟩;have a2:noM5 (Bi "condition" cd (Bi "name" (.str nm) [])):=noM5.put (noM5.put ⟨rfl,rfl,rfl,rfl,rfl⟩ (by ac_nf) (by ac_nf) (by ac_nf) (by ac_nf) (by ac_nf)) (by ac_nf) (by ac_nf) (by ac_nf) (by ac_nf) (by ac_nf);generalize Bi "condition" cd (Bi "name" (.str nm) [])=fs2 at k2 e2 g2 n2 a2;generalize upd (upd H p (.ins Ac dx (Bi "name" (.str nm) []))) p (.ins Ac dx fs2)=H2 at k2 e2
 refine K6 eN fun N eN=>?_;refine (vE rfl ⟨rfl,vE rfl (dT rfl ⟨zAk _,fun cl ncl=>?_⟩)⟩);have s3:=Ai ncl (.lst []);have ncp:cl≠p:=(Ap e2 ncl).symm;have fcl:H cl=none:=k2.free ncp ncl;refine (vE rfl ⟨p,Ac,dx,fs2,rfl,s3 _ _ e2,L.cl_Cover,L.na_Cover_clauses,by lia,?_⟩);have k3:=(k2.same s3).upd (.ins Ac dx (Bi "clauses" (.ref cl) fs2));have e3:upd (upd H2 cl (.lst [])) p (.ins Ac dx (Bi "clauses" (.ref cl) fs2)) p=some (.ins Ac dx (Bi "clauses" (.ref cl) fs2)):=Af;have c3:upd (upd H2 cl (.lst [])) p (.ins Ac dx (Bi "clauses" (.ref cl) fs2)) cl=some (.lst []):=by rw[Aq ncp,Af]
 have g3:(Bi "clauses" (.ref cl) fs2).length<=3:=zAA (Er _ _ _) (by lia);have n3:(Bi "clauses" (.ref cl) fs2).lookup ("name" : Str)=some (.str nm)/\(Bi "clauses" (.ref cl) fs2).lookup ("condition" : Str)=some cd/\(Bi "clauses" (.ref cl) fs2).lookup ("clauses" : Str)=some (.ref cl):=⟨by rw[f1 (by ac_nf)]; exact n2.1,by rw[f1 (by ac_nf)]; exact n2.2,f0⟩;have a3:noM5 (Bi "clauses" (.ref cl) fs2):=a2.put (by ac_nf) (by ac_nf) (by ac_nf) (by ac_nf) (by ac_nf);generalize Bi "clauses" (.ref cl) fs2=fs3 at k3 e3 c3 g3 n3 a3;generalize upd (upd H2 cl (.lst [])) p (.ins Ac dx fs3)=H3 at k3 e3 c3;refine K6 eN fun N eN=>?_;refine (vE rfl ⟨p,Ac,dx,fs3,_,rfl,e3,L.cl_Cover,L.na_Cover_clauses,n3.2.2,cl,_,rfl,.inl (SqL.of c3),vF rfl rfl (vE rfl (dF (by decide) ?_))⟩);refine K6 eN fun N eN=>?_;refine (vE rfl ⟨rfl,vE rfl (dT rfl (vE rfl ⟨two,fun t nt=>⟨one,fun h0 nh0=>?_⟩⟩))⟩);refine BZ eN [some (.ref p),some (.str nm),some cd,some .non,some .non,some (.bl wv),some (.ref h0)] rfl fun N eN=>?_;have sx:=(Ai nt (.tup [V.str nm,.int 1])).trans (Ai nh0 (.lst [V.ref t]));have hh:upd (upd H3 t (.tup [V.str nm,.int 1])) h0 (.lst [V.ref t]) h0=some (.lst [V.ref t]):=Af;have ht:upd (upd H3 t (.tup [V.str nm,.int 1])) h0 (.lst [V.ref t]) t=some (.tup [V.str nm,.int 1]):=Ai nh0 _ _ _ Af;have nhp0:h0≠p:=fun e=>by rw[e,Ai nt _ _ _ e3] at nh0; cases nh0
 have ntp:t≠p:=fun e=>by rw[e,e3] at nt; cases nt
 replace k3:=k3.same sx;replace e3:=sx _ _ e3;replace c3:=sx _ _ c3;generalize upd (upd H3 t (.tup [V.str nm,.int 1])) h0 (.lst [V.ref t])=H3 at hh ht k3 e3 c3;have hh3:=hh;have ht3:=ht;have g1of:∀ {i:Nat} {x:V},[V.ref t][i]?=some x->i=0/\x = .ref t:=fun {i x} h=>by
  match i,h with
  | 0,h=>cases h; exact⟨rfl,rfl⟩
  | i+1,h=>simp at h
 refine (vE rfl ⟨h0,rfl,⟨_,SqL.of hh3⟩,fun h1 nh=>?_⟩);refine Bo (K:=K) (a:=h0) (xs:=[V.ref t]) (fun i zs H5=>zs=(if i=0 then [] else [V.str nm])/\H5 h1=some (.lst zs)/\Same H3 H5) ⟨rfl,Af,Ai nh _⟩ (fun i zs H5 hi ⟨e,h1',s5⟩=>⟨h1',by rw[e]; split <;> simp; lia,SqL.of (s5 _ _ hh3)⟩) (by rw[zCv]; show 1<=16777216; decide) (fun i x zs H5 hi ⟨e,h1',s5⟩=>?_) (fun zs H5 ⟨e,h1',s5⟩=>?_)
 ·obtain⟨rfl,rfl⟩:=g1of hi
  rw[if_pos rfl] at e;subst e;exact (vE rfl (vI rfl rfl (SqT.of (s5 _ _ ht3)) rfl ⟨h1',rfl,rfl,Af,fun b o z=>by rw[Aq (Ap z nh)]; exact s5 b o z⟩))
 rw[if_neg (by show ¬ 1=0; decide)] at e;subst e;have e5:=s5 _ _ e3;have nhp:h1≠p:=(Ap e3 nh).symm;have fh1:H h1=none:=k3.free nhp nh;refine (vE rfl ⟨p,Ac,dx,fs3,rfl,e5,L.cl_Cover,L.na_Cover_houses,by lia,?_⟩);have k6:=(k3.same s5).upd (.ins Ac dx (Bi "houses" (.ref h1) fs3));have e6:upd H5 p (.ins Ac dx (Bi "houses" (.ref h1) fs3)) p=some (.ins Ac dx (Bi "houses" (.ref h1) fs3)):=Af;have h6:upd H5 p (.ins Ac dx (Bi "houses" (.ref h1) fs3)) h1=some (.lst [.str nm]):=by rw[Aq nhp]; exact h1'
 have c6:upd H5 p (.ins Ac dx (Bi "houses" (.ref h1) fs3)) cl=some (.lst []):=by rw[Aq ncp]; exact s5 _ _ c3
 have hh6:upd H5 p (.ins Ac dx (Bi "houses" (.ref h1) fs3)) h0=some (.lst [V.ref t]):=by rw[Aq nhp0]; exact s5 _ _ hh3
 have ht6:upd H5 p (.ins Ac dx (Bi "houses" (.ref h1) fs3)) t=some (.tup [V.str nm,.int 1]):=by rw[Aq ntp]; exact s5 _ _ ht3
 have g6:(Bi "houses" (.ref h1) fs3).length<=4:=zAA (Er _ _ _) (by lia);have n6:(Bi "houses" (.ref h1) fs3).lookup ("name" : Str)=some (.str nm)/\(Bi "houses" (.ref h1) fs3).lookup ("condition" : Str)=some cd/\(Bi "houses" (.ref h1) fs3).lookup ("clauses" : Str)=some (.ref cl)/\(Bi "houses" (.ref h1) fs3).lookup ("houses" : Str)=some (.ref h1):=⟨by rw[f1 (by ac_nf)]; exact n3.1,by rw[f1 (by ac_nf)]; exact n3.2.1,by rw[f1 (by ac_nf)]; exact n3.2.2,f0⟩;have a6:noM5 (Bi "houses" (.ref h1) fs3):=a3.put (by ac_nf) (by ac_nf) (by ac_nf) (by ac_nf) (by ac_nf);generalize Bi "houses" (.ref h1) fs3=fs6 at e6 h6 c6 k6 g6 n6 a6 hh6 ht6;generalize upd H5 p (.ins Ac dx fs6)=H6 at e6 h6 c6 k6 hh6 ht6;refine K6 eN fun N eN=>?_;refine (vE rfl ⟨p,Ac,dx,fs6,_,rfl,e6,L.cl_Cover,L.na_Cover_houses,n6.2.2.2,h1,nm,rfl,h6,nx,n8,fun H7 s7=>?_⟩);have hh7:=s7 _ _ hh6;have ht7:=s7 _ _ ht6;refine K6 eN fun N eN=>?_;refine (vE rfl ⟨h0,rfl,⟨_,SqL.of hh7⟩,fun wl nwl=>?_⟩);refine Bo (K:=K) (a:=h0) (xs:=[V.ref t]) (fun i zs H8=>zs=(if i=0 then [] else Ui)/\H8 wl=some (.lst zs)/\Same H7 H8) ⟨rfl,Af,Ai nwl _⟩ (fun i zs H8 hi ⟨e,h2,s8⟩=>⟨h2,by rw[e]; split <;> simp [Ui]; lia,SqL.of (s8 _ _ hh7)⟩) (by rw[zCv]; show 1<=16777216; decide) (fun i x zs H8 hi ⟨e,h2,s8⟩=>?_) (fun zs H8 ⟨e,h2,s8⟩=>?_)
 ·obtain⟨rfl,rfl⟩:=g1of hi
  rw[if_pos rfl] at e;subst e;exact (vE rfl (vI rfl rfl (SqT.of (s8 _ _ ht7)) rfl ⟨h2,rfl,rfl,Af,fun b o z=>by rw[Aq (Ap z nwl)]; exact s8 b o z⟩))
 rw[if_neg (by show ¬ 1=0; decide)] at e;subst e;intro d dd nd ndd nde;have s9:Same H8 (upd (upd H8 dd (.own d)) d (.ins Am dd [])):=(Ai ndd _).trans (Ai (by rw[Aq (Ne.symm nde)]; exact nd) _);refine⟨d,dd,wl,rfl,Af,s9 _ _ h2,fun H9 kp9=>⟨rfl,?_⟩⟩;have s10:Same H6 H9:=s7.trans (s8.trans (Ea nd ndd kp9));refine (vE rfl ⟨p,Ac,dx,fs6,rfl,s10 _ _ e6,L.cl_Cover,L.na_Cover_deal,by lia,?_⟩);have g10:(Bi "deal" (.ref d) fs6).length<=5:=zAA (Er _ _ _) (by lia);subst eN;refine (vE rfl (vE rfl ⟨p,Ac,dx,_,rfl,Af,L.cl_Cover,L.na_Cover_waits,by lia,?_⟩));have lk:∀ {f:Str} {v:V},fs6.lookup f=some v->¬ f = "deal" -> ¬ f = "waits" -> (Bi "waits" (.bl wv) (Bi "deal" (.ref d) fs6)).lookup f=some v:=fun h n1 n2=>by rw[f1 n2,f1 n1]; exact h
 refine q _ cl dx _ (((k6.same s10).upd _).upd _) Af (lk n6.1 (by ac_nf) (by ac_nf)) (lk n6.2.1 (by ac_nf) (by ac_nf)) (lk n6.2.2.1 (by ac_nf) (by ac_nf)) f0 (noM5.put (a6.put (by ac_nf) (by ac_nf) (by ac_nf) (by ac_nf) (by ac_nf)) (by ac_nf) (by ac_nf) (by ac_nf) (by ac_nf) (by ac_nf)) ?_ fcl
 ·rw[Aq ncp,Aq ncp]; exact s10 _ _ c6
end
def EJ:Nat->Nat->List Nat->List Nat
 | 0,_,acc=>acc
 | _+1,0,acc=>acc
 | f+1,l+1,acc=>EJ f (l/26) ((97+l%26)::acc)
theorem D2:∀ (f g l:Nat) (acc:List Nat),l<=f->l<=g->EJ f l acc=EJ g l acc
 | 0,0,_,_,_,_=>rfl
 | 0,g+1,l,acc,h,_=>by
  obtain rfl:l=0:=by lia
  rfl
 | f+1,0,l,acc,_,h=>by
  obtain rfl:l=0:=by lia
  rfl
 | f+1,g+1,0,acc,_,_=>rfl
 | f+1,g+1,l+1,acc,h1,h2=>D2 f g (l/26) _ (by lia) (by lia)
def Oa (n:Nat):List Nat:=EJ (n+1) (n+1) []
def Wj:List Nat:=(zAN 26).map (97 + ·)
theorem Kb:Str.ofString "abcdefghijklmnopqrstuvwxyz" = tx Wj:=by ac_nf
theorem DH {i:Nat} {v:V} {t2:TS} {D:Jm} {σ:St} {H:Hp} (σ':St) (e:σ.set i (some v)=σ') (h:t2 D σ' H):G7 (W4 (tC v) (Df i)) t2 D σ H:=by
 show t2 D (σ.set i (some v)) H;rw[e];exact h
theorem Dt {i:Nat} {v:V} {nx:St->Hp->Prop} {σ:St} {H:Hp} (σ':St) (e:σ.set i (some v)=σ') (h:nx σ' H):Df i v σ H nx:=by
 unfold Df;rw[e];exact h
theorem L8 {α:Type} {l:List α} {i:Nat} {x:α} (h:l[i]?=some x):l.take (i+1)=l.take i++[x]:=by
 rw[zCj,h];rfl
def V5:Sp:=fun vs H Q _=>∃ n:Nat,vs=[.int n]/\n<=700/\Q (.str (tx (Oa n))) H
section
variable {P:Program} {w:World} {K:zAa} {mg:Str->Option Value} {base:Heap}
theorem Yr:Aw ["place", "name", "left"] ["place"] (Ar Mu):=by injections
theorem Yw {f:Addr} {fd:zCx} (F:Fun K "name_at" "name_at" Mu f fd) (T:Txt K mg):FnOk P w K mg base Da 1 f fd ["place"] V5:=by
 have sc:=Yr;bv_omega
 ·obtain⟨_,rfl,_⟩:=h
  rfl
 obtain⟨n,rfl,n7,q⟩:=h;refine⟨_,(Aj (Ba (i:=1) sc.nd rfl (Or.inl rfl) Dc)
   (Aj (Ba (i:=2) sc.nd rfl (Or.inl rfl) (Bc Bw (pv 0) Ao))
   (Aj (Yi PassesOwn.never (Bd Ie (pv 2) Ao (Bf _))
    (Aj (Ba (i:=1) sc.nd rfl (Or.inl rfl) (Bc A2 (Be Z0 (Fl T.g_LETTERS rfl) (Bc Gk (Bc Ic (pv 2) Ao) (Bb Hv rfl T.n_len (show zCw _=some (.builtin "len") from rfl) (Aa (Fl T.g_LETTERS rfl) Ah))) (fun _ _=>rfl)) (pv 1)))
   (An (Ba (i:=2) sc.nd rfl (Or.inl rfl) (Bc D3 (Bc Ic (pv 2) Ao) (Bb Hv rfl T.n_len (show zCw _=some (.builtin "len") from rfl) (Aa (Fl T.g_LETTERS rfl) Ah)))))))
   (An (Az (pv 1)))))),?_⟩
 refine DH [some (.int n),some (.str ""),none] rfl ?_;refine (vE rfl (vF rfl rfl ?_));refine Dt [some (.int n),some (.str ""),some (.int ((n:Int)+1))] rfl ?_;have lle:(Str.ofString "abcdefghijklmnopqrstuvwxyz").length<=sizeLine:=by rw[Kb,Mn]; exact Bk (by show 26<=1000; decide)
 have llen:((Str.ofString "abcdefghijklmnopqrstuvwxyz").length:Int)=26:=by rw[Kb,Mn]; rfl
 refine⟨fun m σ' H'=>H'=H/\∃ acc,σ'=[some (.int n),some (.str (tx acc)),some (.int (m:Int))]/\EJ m m acc=Oa n/\acc.length+m<=701,⟨n+1,rfl,[],rfl,rfl,by show 0+(n+1)<=701; lia⟩,?_⟩;rintro m σ' H' ⟨rfl,acc,rfl,e,l⟩;refine (vE rfl (vF rfl rfl (vE rfl ?_)))
 match m,e,l with
 | 0,e,l=>
  refine dF (by decide) ?_;have e':acc=Oa n:=e;refine (vE rfl ?_);rw[e'];exact q
 | k+1,e,l=>
  refine dT (by show (0:Int)<((k+1:Nat):Int); lia) ⟨fun σ2 H2=>H2=H'/\σ2=[some (.int n),some (.str (tx ((97+k%26)::acc))),some (.int ((k/26:Nat):Int))],fun σ2 H2 ⟨h1,h2⟩=>⟨k/26,by lia,h1,_,h2,?_,?_⟩,?_⟩
  ·rw[<- e]
   show EJ (k/26) (k/26) _=EJ k (k/26) ((97+k%26)::acc);exact D2 _ _ _ _ (zAf _) (by lia)
  ·rw[zAl]
   lia
  have at1:Zb (Str.ofString "abcdefghijklmnopqrstuvwxyz").cps.toList ((((k+1:Nat):Int)-1)%26)=some (97+k%26):=by
   rw[show (((k+1:Nat):Int)-1)%26=((k%26:Nat):Int) by lia];refine Uy ?_;rw[Kb,U1];unfold Wj;rw[zAu,List.getElem?_range (by lia)];rfl
  refine (vE rfl (vF rfl rfl ⟨_,rfl,lle,?_⟩));rw[llen];refine (vF rfl rfl ⟨(by show (0:Int)<26; decide),_,_,_,rfl,rfl,lle,at1,vE rfl (vF rfl rfl ⟨?_,?_⟩)⟩)
  ·rw[Mn]
   exact Bk (by show 1+acc.length<=1000; lia)
  have ea:(⟨#[97+k%26]⟩:Str)++tx acc=tx ((97+k%26)::acc):=EW [97+k%26] acc;rw[ea];refine Dt [some (.int n),some (.str (tx ((97+k%26)::acc))),some (.int ((k+1:Nat):Int))] rfl ?_;refine (vE rfl (vF rfl rfl ⟨_,rfl,lle,?_⟩));rw[llen];refine (vF rfl rfl ⟨⟨by decide,by decide⟩,?_⟩);refine Dt [some (.int n),some (.str (tx ((97+k%26)::acc))),some (.int ((k/26:Nat):Int))] ?_ ⟨rfl,rfl⟩;have:(((k+1:Nat):Int)-1)/26=((k/26:Nat):Int):=by lia
  exact congrArg (fun z:Int=>[some (V.int n),some (V.str (tx ((97+k%26)::acc))),some (V.int z)]) this
theorem Gf {α:Type} [DecidableEq α]:∀ {l m:List α},l.Nodup->(∀ x∈l,x∈m)->l.length<=m.length
 | [],_,_,_=>zAk _
 | x::l,m,nd,h=>by
  rw[zBo] at nd;have hx:=h x zAo;have ih:=Gf (l:=l) (m:=m.erase x) nd.2 fun y hy=>by
   have ne:y≠x:=fun e=>nd.1 (by rw[<- e]; exact hy);exact (List.mem_erase_of_ne ne).mpr (h y (zAs _ hy))
  rw[zCe hx] at ih;have:=zCl hx;rw[zAl]
  lia
theorem U2:((zAN 62).map Oa).Nodup:=by ac_nf
theorem EK {ns:List Str} {p:Nat} (p6:p<=62) (h:∀ j,j<p->tx (Oa j)∈ns):p<=ns.length:=by
 have nd:((zAN p).map fun j=>tx (Oa j)).Nodup:=by
  have a:=U2;rw[zBg,zBO] at a ⊢;have b:(zAN p).Sublist (zAN 62):=List.range_sublist.mpr p6;exact (a.sublist b).imp fun n e=>n (DG e)
 have:=Gf (m:=ns) nd fun x hx=>by
  obtain⟨j,hj,rfl⟩:=zAR.mp hx;exact h j (zAS.mp hj)
 rwa [zAb,zAY] at this
def Jg:Sp:=fun vs H Q _=>∃ a ns,vs=[.ref a]/\H a=some (.lst (List.map V.str ns))/\ns.length<=60/\∀ p H',Same H H'->p<=60->tx (Oa p)∉ns->(∀ j,j<p->tx (Oa j)∈ns)->Q (.str (tx (Oa p))) H'
theorem Zv:Aw ["names", "taken", "name", "place"] ["names"] (Ar Md):=by injections
theorem A9 {f:Addr} {fd:zCx} (F:Fun K "another" "another" Md f fd) (T:Txt K mg) (Cname_at:Cr P w K mg base 1 "name_at" ["place"] V5):FnOk P w K mg base Da 2 f fd ["names"] Jg:=by
 have sc:=Zv;bv_omega
 ·obtain⟨_,_,rfl,_⟩:=h
  rfl
 obtain⟨a,ns,rfl,ha,l6,q⟩:=h;have hu2:=GD hr;refine⟨_,(Aj (Ba (i:=1) sc.nd rfl (Or.inl rfl) W0)
   (Aj (Cg PassesOwn.never rfl (Bg (pv 0)) (Ax (i:=2) sc.nd rfl (Or.inl rfl))
    (An (BF hu2 (pv 1) (pv 2) Dr rfl)))
   (Aj (Ba (i:=3) sc.nd rfl (Or.inl rfl) Ao)
   (Aj (Yi PassesOwn.never (FA (DW hu2 (Av Cname_at (hr.mono (by decide)) rfl (Aa (pv 3) Ah)) (pv 1)))
    (An (Ba (i:=3) sc.nd rfl (Or.inl rfl) (Bc Bw (pv 3) Ao))))
   (An (Az (Av Cname_at (hr.mono (by decide)) rfl (Aa (pv 3) Ah)))))))),?_⟩
 intro d nd;refine Dt [some (.ref a),some (.ref d),none,none] rfl ?_;have s1:=Ai nd (.dK []);have h1:upd H d (.dK []) d=some (.dK []):=Af;generalize upd H d (.dK [])=H1 at s1 h1;have ha1:=s1 _ _ ha;have nad:a≠d:=Ap ha nd;refine (vE rfl ⟨a,rfl,⟨_,SqL.of ha1⟩,?_⟩);refine Cf (K:=K) (a:=a) (xs:=ns.map V.str) (fun i σ H2=>(∃ o2,σ=[some (.ref a),some (.ref d),o2,none])/\(∃ kvs,H2 d=some (.dK kvs)/\kvs.length<=i/\∀ y,(Gm kvs (.inr y)).isSome=decide (y∈ns.take i))/\∀ b o,H1 b=some o->b≠d->H2 b=some o)
  ⟨⟨none,rfl⟩,⟨[],h1,zAf _,fun y=>by rw[zBJ]; rfl⟩,fun _ _ y _=>y⟩ (fun i σ H2 _ hh=>SqL.of (hh.2.2 _ _ ha1 nad)) ?_ ?_
 ·rintro i x σ H2 hi ⟨⟨o2,rfl⟩,⟨kvs,hd,lk,iff⟩,kp⟩
  rw[zAu] at hi;obtain⟨y,hy,rfl⟩:=zAD.mp hi;have il:=(zAj.mp hy).1;refine Dt [some (.ref a),some (.ref d),some (.str y),none] rfl ?_;refine (vE rfl (vE rfl ⟨d,_,rfl,DPut.k (k:=.inr y) hd (by rw[zCv]; lia),?_⟩));refine⟨⟨_,rfl⟩,⟨_,Af,zAA (Iu _ _ _) (by lia),fun z=>?_⟩,fun b o e n=>by rw[Aq n]; exact kp b o e n⟩;rw[V0,L8 hy];by_cases c:(Sum.inr z:Ff) = .inr y
  ·rw[if_pos c,show z=y from Sum.inr.inj c]
   exact (decide_eq_true (zAC _ (zAg.mpr rfl))).symm
  ·rw[if_neg c,iff]
   have:(z∈ns.take i++[y])↔z∈ns.take i:=by
    rw[zAy,zAg];exact⟨fun e=>e.elim id fun e=>absurd (congrArg Sum.inr e) c,.inl⟩
   exact decide_eq_decide.mpr this.symm
 ·rintro σ H2 ⟨⟨o2,rfl⟩,⟨kvs,hd,lk,iff⟩,kp⟩
  rw[zAb,zAO] at iff;have sH:Same H H2:=fun b o e=>kp b o (s1 b o e) (Ap e nd);refine DH [some (.ref a),some (.ref d),o2,some (.int 0)] rfl ?_;refine⟨fun m σ' H'=>H'=H2/\∃ p:Nat,σ'=[some (.ref a),some (.ref d),o2,some (.int (p:Int))]/\p+m=62/\∀ j,j<p->tx (Oa j)∈ns,⟨62,rfl,0,rfl,by lia,fun j hj=>absurd hj (zBp _)⟩,?_⟩;rintro m σ' H' ⟨rfl,p,rfl,em,all⟩;have pf:=EK (by lia) all;refine (vE rfl ⟨p,rfl,by lia,vE rfl ⟨d,_,rfl,DGet.k (k:=.inr (tx (Oa p))) hd,_,rfl,?_⟩⟩);rw[iff];by_cases c:tx (Oa p)∈ns
  ·rw[decide_eq_true c]
   refine Jr ⟨fun σ2 H2=>H2=H'/\σ2=[some (.ref a),some (.ref d),o2,some (.int ((p+1:Nat):Int))],fun σ2 H2 ⟨h1,h2⟩=>⟨m-1,by lia,h1,p+1,h2,by lia,fun j hj=>?_⟩,?_⟩
   ·by_cases e:j=p
    ·rw[e]; exact c
    ·exact all j (by lia)
   ·exact (vE rfl (vF rfl rfl (Dt [some (.ref a),some (.ref d),o2,some (.int ((p+1:Nat):Int))] rfl ⟨rfl,rfl⟩)))
  ·rw[decide_eq_false c]
   refine Dk (vE rfl ⟨p,rfl,by lia,?_⟩);exact q p _ sH (by lia) c all
end
def Lj (C:Addr) (f:Str):Sp:=fun vs H Q _=>∃ p dx v,vs=[.ref p,v]/\H p=some (.ins C dx [])/\Q .non (upd H p (.ins C dx (Bi f v [])))
def P3 (C:Addr):Sp:=fun vs H Q _=>∃ p dx v w,vs=[.ref p,v,w]/\H p=some (.ins C dx [])/\∀ H',(∀ b,b≠p->H' b=H b)->H' p=some (.ins C dx (Bi "last" w (Bi "first" v [])))->Q .non H'
def U3 (C:Addr):Sp:=fun vs H Q _=>∃ p dx a xs,vs=[.ref p,.ref a]/\H p=some (.ins C dx [])/\H a=some (.lst xs)/\∀ l H',H l=none->(∀ b,b≠p->b≠l->H' b=H b)->H' p=some (.ins C dx (Bi "several" (.ref l) []))->H' l=some (.lst xs)->Q .non H'
def nn:Cnd->Prop
 | .at _=>True
 | .so ts=>∀ t∈ts,∃ c,t = .at c
 | _=>False
def U9 (κ:A8) (C:Addr):Prop:=C=κ.a0\/C=κ.a1\/C=κ.a2\/C=κ.a3\/C=κ.a4
def V7 (κ:A8) (C:Addr):Prop:=C=κ.a0\/C=κ.a1\/C=κ.a2\/C=κ.a3\/C=κ.a4\/C=κ.a7
theorem GA (κ:A8) (c:Co):U9 κ (κ.of (.at c)):=by
 cases c with
 | alw=>exact .inl rfl
 | cau n=>exact .inr (.inl rfl)
 | thi n=>exact .inr (.inr (.inl rfl))
 | day a b=>exact .inr (.inr (.inr (.inl rfl)))
 | ovr m=>exact .inr (.inr (.inr (.inr rfl)))
theorem GB (κ:A8) {t:Cnd} (h:nn t):V7 κ (κ.of t):=by
 cases t with
 | «at» c=>
  cases c with
  | alw=>exact .inl rfl
  | cau n=>exact .inr (.inl rfl)
  | thi n=>exact .inr (.inr (.inl rfl))
  | day a b=>exact .inr (.inr (.inr (.inl rfl)))
  | ovr m=>exact .inr (.inr (.inr (.inr (.inl rfl))))
 | no t=>exact h.elim
 | al ts=>exact h.elim
 | so ts=>exact .inr (.inr (.inr (.inr (.inr rfl))))
def Ep (κ:A8) (C:Addr):Sp:=fun vs H Q _=>∃ p t l x,vs=[.ref p,.ref l]/\CdAt κ H (.ref p) t/\κ.of t=C/\nn t/\Z2 H l x/\Q (.bl (hT t x)) H
def En (κ:A8) (C:Addr):Sp:=fun vs H Q _=>∃ p t,vs=[.ref p]/\CdAt κ H (.ref p) t/\κ.of t=C/\nn t/\(Bv t).length<=60/\∀ l H',Same H H'->H l=none->MkAt H' l (Bv t)->Q (.ref l) H'
def DA (κ:A8):Sp:=fun vs H Q _=>∃ a us ts,vs=[.ref a]/\H a=some (.lst us)/\CdsAt κ H us ts/\(∀ t∈ts,∃ c,t = .at c)/\(marksTs ts).length<=60/\∀ l H',Same H H'->H l=none->MkAt H' l (marksTs ts)->Q (.ref l) H'
theorem Bj {H H':Hp} {p:Addr} {o:HO} (h:H p=none) (s:Same H H'):Same H (upd H' p o):=fun b u e=>by rw[Aq (Ap e h)]; exact s _ _ e
theorem Dd {α:Type} {l:List α} {i:Nat} {x:α} (h:l[i]?=some x):l.take (i+1)=l.take i++[x]:=by
 rw[zCj,h];rfl
section
variable {P:Program} {w:World} {K:zAa} {mg:Str->Option Value} {base:Heap} {Ab Ad Ae Ag Al Ak Am Ac As At:Addr}
theorem O9 (L:Kl K mg Ab Ad Ae Ag Al Ak Am Ac As At):(A8.mk Ab Ad Ae Ag Al Am Ac Ak).l.Nodup:=by
 have h:=L.nd;unfold A8.l;simp only [zBo,zAp,not_or,zBf,not_false_eq_true,zCf,and_true] at h ⊢
 grind
theorem Jk:Aw ["self", "name"] ["self", "name"] (Ar Du):=by injections
theorem Jj {f:Addr} {fd:zCx} (F:Fun K "__init__" "CauseIs.__init__" Du f fd) (L:Kl K mg Ab Ad Ae Ag Al Ak Am Ac As At):FnOk P w K mg base Da 1 f fd ["self", "name"] (Lj Ad "name"):=by
 have sc:=Jk;bv_omega
 ·obtain⟨_,_,_,rfl,_⟩:=h
  rfl
 obtain⟨p,dx,n,rfl,hp,q⟩:=h;refine⟨_,(An (Di (pv 0) (pv 1) rfl)),?_⟩;exact (vE rfl (vE rfl ⟨p,_,dx,_,rfl,hp,L.cl_CauseIs,L.na_CauseIs_name,(by show 0<1000; decide),q⟩))
theorem Jl:Aw ["self", "name"] ["self", "name"] (Ar Dv):=by injections
theorem Jn {f:Addr} {fd:zCx} (F:Fun K "__init__" "ThingIs.__init__" Dv f fd) (L:Kl K mg Ab Ad Ae Ag Al Ak Am Ac As At):FnOk P w K mg base Da 1 f fd ["self", "name"] (Lj Ae "name"):=by
 have sc:=Jl;bv_omega
 ·obtain⟨_,_,_,rfl,_⟩:=h
  rfl
 obtain⟨p,dx,n,rfl,hp,q⟩:=h;refine⟨_,(An (Di (pv 0) (pv 1) rfl)),?_⟩;exact (vE rfl (vE rfl ⟨p,_,dx,_,rfl,hp,L.cl_ThingIs,L.na_ThingIs_name,(by show 0<1000; decide),q⟩))
theorem Ng:Aw ["self", "cents"] ["self", "cents"] (Ar Ez):=by injections
theorem Me {f:Addr} {fd:zCx} (F:Fun K "__init__" "Over.__init__" Ez f fd) (L:Kl K mg Ab Ad Ae Ag Al Ak Am Ac As At):FnOk P w K mg base Da 1 f fd ["self", "cents"] (Lj Al "cents"):=by
 have sc:=Ng;bv_omega
 ·obtain⟨_,_,_,rfl,_⟩:=h
  rfl
 obtain⟨p,dx,n,rfl,hp,q⟩:=h;refine⟨_,(An (Di (pv 0) (pv 1) rfl)),?_⟩;exact (vE rfl (vE rfl ⟨p,_,dx,_,rfl,hp,L.cl_Over,L.na_Over_cents,(by show 0<1000; decide),q⟩))
theorem Ks:Aw ["self", "first", "last"] ["self", "first", "last"] (Ar Ee):=by injections
theorem Kn {f:Addr} {fd:zCx} (F:Fun K "__init__" "DaysIn.__init__" Ee f fd) (L:Kl K mg Ab Ad Ae Ag Al Ak Am Ac As At):FnOk P w K mg base Da 1 f fd ["self", "first", "last"] (P3 Ag):=by
 have sc:=Ks;bv_omega
 ·obtain⟨_,_,_,_,rfl,_⟩:=h
  rfl
 obtain⟨p,dx,a,b,rfl,hp,q⟩:=h;refine⟨_,(Aj (Di (pv 0) (pv 1) rfl)
   (An (Di (pv 0) (pv 2) rfl))),?_⟩
 refine (vE rfl (vE rfl ⟨p,_,dx,_,rfl,hp,L.cl_DaysIn,L.na_DaysIn_first,(by show 0<1000; decide),?_⟩));exact (vE rfl (vE rfl ⟨p,_,dx,_,rfl,Af,L.cl_DaysIn,L.na_DaysIn_last,(by show 1<1000; decide),q _ (fun b n=>by rw[Aq n,Aq n]) Af⟩))
theorem Mw:Aw ["self", "several"] ["self", "several"] (Ar Fh):=by injections
theorem Mf {f:Addr} {fd:zCx} (F:Fun K "__init__" "Some.__init__" Fh f fd) (T:Txt K mg) (L:Kl K mg Ab Ad Ae Ag Al Ak Am Ac As At):FnOk P w K mg base Da 1 f fd ["self", "several"] (U3 Ak):=by
 have sc:=Mw;bv_omega
 ·obtain⟨_,_,_,_,rfl,_⟩:=h
  rfl
 obtain⟨p,dx,a,xs,rfl,hp,ha,q⟩:=h;refine⟨_,(An (Di (pv 0) (El Ei rfl T.n_list (show zCw _=some (.type "list") from rfl) (Aa (pv 1) Ah)) rfl)),?_⟩;refine (vE rfl ⟨a,_,rfl,.inl (SqL.of ha),fun l hl=>?_⟩);have hpl:p≠l:=Ap hp hl;exact (vE rfl ⟨p,_,dx,_,rfl,(by rw[Aq hpl]; exact hp),L.cl_Some,L.na_Some_several,(by show 0<1000; decide),q l _ hl (fun b n1 n2=>by rw[Aq n1,Aq n2]) Af (by rw[Aq hpl.symm,Af])⟩)
theorem Jv:Aw ["self", "loss"] ["self", "loss"] (Ar Eg):=by injections
theorem Fy {f:Addr} {fd:zCx} (F:Fun K "holds" "Condition.holds" Eg f fd) (L:Kl K mg Ab Ad Ae Ag Al Ak Am Ac As At):FnOk P w K mg base Da 1 f fd ["self", "loss"] (Ep (A8.mk Ab Ad Ae Ag Al Am Ac Ak) Ab):=by
 have sc:=Jv;bv_omega
 ·obtain⟨_,_,_,_,rfl,_⟩:=h
  rfl
 obtain⟨p,t,l,x,rfl,hp,hc,hg,hl,q⟩:=h;obtain rfl:=JO (κ:=A8.mk Ab Ad Ae Ag Al Am Ac Ak) (O9 L) hc;unfold hT at q;exact⟨_,(An (Az Dr)),q⟩
theorem Nf:Aw ["self", "loss"] ["self", "loss"] (Ar Fa):=by injections
theorem Gz {f:Addr} {fd:zCx} (F:Fun K "holds" "CauseIs.holds" Fa f fd) (T:Txt K mg) (L:Kl K mg Ab Ad Ae Ag Al Ak Am Ac As At):FnOk P w K mg base Da 1 f fd ["self", "loss"] (Ep (A8.mk Ab Ad Ae Ag Al Am Ac Ak) Ad):=by
 have sc:=Nf;bv_omega
 ·obtain⟨_,_,_,_,rfl,_⟩:=h
  rfl
 obtain⟨p,t,l,x,rfl,hp,hc,hg,⟨ev,n,ht⟩,q⟩:=h;obtain⟨nm,rfl⟩:=JF (κ:=A8.mk Ab Ad Ae Ag Al Am Ac Ak) (O9 L) hc;unfold hT at q;unfold CdAt at hp;obtain⟨_,dx,e,hp⟩:=hp;cases e;refine⟨_,(An (Az (Eh Gg (Be Br (pv 1) (Cu T.g_CAUSE rfl) (fun _ _=>rfl)) (Cc (pv 0) rfl) (Bf _)))),?_⟩;exact (vE rfl (vI rfl rfl (SqT.of ht) rfl (vE rfl ⟨p,_,dx,_,_,rfl,hp,L.cl_CauseIs,L.na_CauseIs_name,Xz nm,rfl,q⟩)))
theorem Lx:Aw ["self", "loss"] ["self", "loss"] (Ar Fg):=by injections
theorem Gq {f:Addr} {fd:zCx} (F:Fun K "holds" "ThingIs.holds" Fg f fd) (T:Txt K mg) (L:Kl K mg Ab Ad Ae Ag Al Ak Am Ac As At):FnOk P w K mg base Da 1 f fd ["self", "loss"] (Ep (A8.mk Ab Ad Ae Ag Al Am Ac Ak) Ae):=by
 have sc:=Lx;bv_omega
 ·obtain⟨_,_,_,_,rfl,_⟩:=h
  rfl
 obtain⟨p,t,l,x,rfl,hp,hc,hg,⟨ev,n,ht⟩,q⟩:=h;obtain⟨nm,rfl⟩:=JD (κ:=A8.mk Ab Ad Ae Ag Al Am Ac Ak) (O9 L) hc;unfold hT at q;unfold CdAt at hp;obtain⟨_,dx,e,hp⟩:=hp;cases e;refine⟨_,(An (Az (Eh Gg (Be Br (pv 1) (Cu T.g_THING rfl) (fun _ _=>rfl)) (Cc (pv 0) rfl) (Bf _)))),?_⟩;exact (vE rfl (vI rfl rfl (SqT.of ht) rfl (vE rfl ⟨p,_,dx,_,_,rfl,hp,L.cl_ThingIs,L.na_ThingIs_name,Xy nm,rfl,q⟩)))
theorem Of:Aw ["self", "loss"] ["self", "loss"] (Ar Ga):=by injections
theorem Hy {f:Addr} {fd:zCx} (F:Fun K "holds" "DaysIn.holds" Ga f fd) (T:Txt K mg) (L:Kl K mg Ab Ad Ae Ag Al Ak Am Ac As At):FnOk P w K mg base Da 1 f fd ["self", "loss"] (Ep (A8.mk Ab Ad Ae Ag Al Am Ac Ak) Ag):=by
 have sc:=Of;bv_omega
 ·obtain⟨_,_,_,_,rfl,_⟩:=h
  rfl
 obtain⟨p,t,l,x,rfl,hp,hc,hg,⟨ev,n,ht⟩,q⟩:=h;obtain⟨a,b,rfl⟩:=JA (κ:=A8.mk Ab Ad Ae Ag Al Am Ac Ak) (O9 L) hc;unfold hT at q;unfold CdAt at hp;obtain⟨_,dx,e,hp⟩:=hp;cases e;refine⟨_,(An (Az (Ox Ij Ij (Cc (pv 0) rfl) (Be Br (pv 1) (Cu T.g_DAY rfl) (fun _ _=>rfl)) (Cc (pv 0) rfl)))),?_⟩;have q':Q (.bl (decide (a<=x.d)&&decide (x.d<=b))) H:=q;refine (vE rfl ⟨p,_,dx,_,_,rfl,hp,L.cl_DaysIn,L.na_DaysIn_first,Wo a b,_,rfl,vI rfl rfl (SqT.of ht) rfl (vF rfl rfl (vE rfl (G8 (fun e=>?_) (fun e=>?_))))⟩)
 ·rw[e,Bool.true_and] at q'
  exact (vE rfl ⟨p,_,dx,_,_,rfl,hp,L.cl_DaysIn,L.na_DaysIn_last,C2 a b,_,_,rfl,rfl,q'⟩)
 ·rw[zBz.mpr e,Bool.false_and] at q'
  exact q'
theorem Ra:Aw ["self", "loss"] ["self", "loss"] (Ar Hf):=by injections
theorem Js {f:Addr} {fd:zCx} (F:Fun K "holds" "Over.holds" Hf f fd) (T:Txt K mg) (L:Kl K mg Ab Ad Ae Ag Al Ak Am Ac As At):FnOk P w K mg base Da 1 f fd ["self", "loss"] (Ep (A8.mk Ab Ad Ae Ag Al Am Ac Ak) Al):=by
 have sc:=Ra;bv_omega
 ·obtain⟨_,_,_,_,rfl,_⟩:=h
  rfl
 obtain⟨p,t,l,x,rfl,hp,hc,hg,⟨ev,n,ht⟩,q⟩:=h;obtain⟨c,rfl⟩:=JP (κ:=A8.mk Ab Ad Ae Ag Al Am Ac Ak) (O9 L) hc;unfold hT at q;unfold CdAt at hp;obtain⟨_,dx,e,hp⟩:=hp;cases e;refine⟨_,(An (Az (Eh Ie (Be Br (pv 1) (Cu T.g_CENTS rfl) (fun _ _=>rfl)) (Cc (pv 0) rfl) (Bf _)))),?_⟩;exact (vE rfl (vI rfl rfl (SqT.of ht) rfl (vE rfl ⟨p,_,dx,_,_,rfl,hp,L.cl_Over,L.na_Over_cents,Xs c,_,_,rfl,rfl,q⟩)))
theorem Rr:Aw ["self", "loss", "part"] ["self", "loss"] (Ar Hm):=by injections
theorem Rp {f:Addr} {fd:zCx} (F:Fun K "holds" "Some.holds" Hm f fd) (L:Kl K mg Ab Ad Ae Ag Al Ak Am Ac As At) (Mholds:Ry P w K mg base 1 (U9 (A8.mk Ab Ad Ae Ag Al Am Ac Ak)) "holds" ["self", "loss"] (Ep (A8.mk Ab Ad Ae Ag Al Am Ac Ak))):FnOk P w K mg base Da 2 f fd ["self", "loss"] (Ep (A8.mk Ab Ad Ae Ag Al Am Ac Ak) Ak):=by
 have sc:=Rr;bv_omega
 ·obtain⟨_,_,_,_,rfl,_⟩:=h
  rfl
 obtain⟨p,t,l,x,rfl,hp,hc,hg,hl,q⟩:=h;obtain⟨ts,rfl⟩:=JH (κ:=A8.mk Ab Ad Ae Ag Al Am Ac Ak) (O9 L) hc;unfold hT at q;unfold CdAt at hp;obtain⟨_,dx,a,vs,e,hp,ha,hv⟩:=hp;cases e;refine⟨_,(Aj (Cg PassesOwn.never rfl (Bg (Cc (pv 0) rfl)) (Ax (i:=2) sc.nd rfl (Or.inl rfl))
    (An (Cd (Dw (Xr Mholds (hr.mono (by decide)) (pv 2) (Aa (pv 1) Ah)))
    (An (Az Dr))
    Bm)))
   (An (Az Dr))),?_⟩
 have hlen:=hv.len;refine (vE rfl ⟨p,_,dx,_,_,rfl,hp,L.cl_Some,L.na_Some_several,X7 _ _,a,rfl,⟨_,SqL.of ha⟩,?_⟩);refine Cf (K:=K) (a:=a) (xs:=vs) (fun i σ H2=>(∃ o,σ=[some (.ref p),some (.ref l),o])/\H2=H/\hSom ts x=hSom (ts.drop i) x) ⟨⟨none,rfl⟩,rfl,rfl⟩ (fun i σ H2 _ ⟨_,e,_⟩=>by rw[e]; exact SqL.of ha) ?_ ?_
 ·rintro i v σ H2 hi ⟨⟨o,rfl⟩,rfl,e⟩
  obtain⟨u,eu,hu⟩:=hv.get hi;rw[G4 eu] at e;obtain⟨c0,rfl⟩:=hg u (zAB eu);obtain⟨pu,du,fu,rfl,ob,n1,_⟩:=hu.obj;refine (vE rfl ⟨pu,_,du,fu,rfl,ob,GA _ c0,n1,_,rfl,pu,.at c0,l,x,rfl,hu,rfl,trivial,hl,?_⟩);cases hb:hT (.at c0) x with
  | false=>
   rw[hb,Bool.false_or] at e;exact (vE rfl (Dk ⟨⟨_,rfl⟩,rfl,e⟩))
  | true=>
   rw[hb,Bool.true_or] at e;rw[e] at q;exact (vE rfl (Jr q))
 ·rintro σ H2 ⟨⟨o,rfl⟩,rfl,e⟩
  rw[hlen,List.drop_length] at e;rw[e] at q;unfold hSom at q;exact q
theorem Kq:Aw ["self"] ["self"] (Ar Ej):=by injections
theorem Fq {f:Addr} {fd:zCx} (F:Fun K "marks" "Condition.marks" Ej f fd) (L:Kl K mg Ab Ad Ae Ag Al Ak Am Ac As At):FnOk P w K mg base Da 1 f fd ["self"] (En (A8.mk Ab Ad Ae Ag Al Am Ac Ak) Ab):=by
 have sc:=Kq;bv_omega
 ·obtain⟨_,_,rfl,_⟩:=h
  rfl
 obtain⟨p,t,rfl,hp,hc,hg,hm,q⟩:=h;obtain rfl:=JO (κ:=A8.mk Ab Ad Ae Ag Al Am Ac Ak) (O9 L) hc;exact⟨_,(An (Az (Bp Ah))),zAk _,fun l hl=>q l _ (Ai hl _) hl (by unfold Bv; exact⟨[],Af,trivial⟩)⟩
theorem Nb:Aw ["self"] ["self"] (Ar Fc):=by injections
theorem Hd {f:Addr} {fd:zCx} (F:Fun K "marks" "CauseIs.marks" Fc f fd) (L:Kl K mg Ab Ad Ae Ag Al Ak Am Ac As At):FnOk P w K mg base Da 1 f fd ["self"] (En (A8.mk Ab Ad Ae Ag Al Am Ac Ak) Ad):=by
 have sc:=Nb;bv_omega
 ·obtain⟨_,_,rfl,_⟩:=h
  rfl
 obtain⟨p,t,rfl,hp,hc,hg,hm,q⟩:=h;obtain⟨nm,rfl⟩:=JF (κ:=A8.mk Ab Ad Ae Ag Al Am Ac Ak) (O9 L) hc;unfold CdAt at hp;obtain⟨_,dx,e,hp⟩:=hp;cases e;have one:1<=sizeLine:=by rw[zCv]; decide
 have two:2<=sizeLine:=by rw[zCv]; decide
 refine⟨_,(An (Az (Bp (Aa (Cp (Aa Dc (Aa (Cc (pv 0) rfl) Ah))) Ah)))),?_⟩;refine⟨_,rfl,p,_,dx,_,_,rfl,hp,L.cl_CauseIs,L.na_CauseIs_name,Xz nm,two,fun t ht=>⟨one,fun l hl=>?_⟩⟩;exact q l _ ((Ai ht _).trans (Ai hl _)) ((Ai ht _).free hl) (by unfold Bv; exact⟨_,Af,⟨t,rfl,Ai hl _ _ _ Af⟩,trivial⟩)
theorem Nd:Aw ["self"] ["self"] (Ar Fe):=by injections
theorem Gu {f:Addr} {fd:zCx} (F:Fun K "marks" "ThingIs.marks" Fe f fd) (L:Kl K mg Ab Ad Ae Ag Al Ak Am Ac As At):FnOk P w K mg base Da 1 f fd ["self"] (En (A8.mk Ab Ad Ae Ag Al Am Ac Ak) Ae):=by
 have sc:=Nd;bv_omega
 ·obtain⟨_,_,rfl,_⟩:=h
  rfl
 obtain⟨p,t,rfl,hp,hc,hg,hm,q⟩:=h;obtain⟨nm,rfl⟩:=JD (κ:=A8.mk Ab Ad Ae Ag Al Am Ac Ak) (O9 L) hc;unfold CdAt at hp;obtain⟨_,dx,e,hp⟩:=hp;cases e;have one:1<=sizeLine:=by rw[zCv]; decide
 have two:2<=sizeLine:=by rw[zCv]; decide
 refine⟨_,(An (Az (Bp (Aa (Cp (Aa Dc (Aa (Cc (pv 0) rfl) Ah))) Ah)))),?_⟩;refine⟨_,rfl,p,_,dx,_,_,rfl,hp,L.cl_ThingIs,L.na_ThingIs_name,Xy nm,two,fun t ht=>⟨one,fun l hl=>?_⟩⟩;exact q l _ ((Ai ht _).trans (Ai hl _)) ((Ai ht _).free hl) (by unfold Bv; exact⟨_,Af,⟨t,rfl,Ai hl _ _ _ Af⟩,trivial⟩)
theorem Rz:Aw ["self"] ["self"] (Ar Hn):=by injections
theorem Jt {f:Addr} {fd:zCx} (F:Fun K "marks" "Over.marks" Hn f fd) (L:Kl K mg Ab Ad Ae Ag Al Ak Am Ac As At):FnOk P w K mg base Da 1 f fd ["self"] (En (A8.mk Ab Ad Ae Ag Al Am Ac Ak) Al):=by
 have sc:=Rz;bv_omega
 ·obtain⟨_,_,rfl,_⟩:=h
  rfl
 obtain⟨p,t,rfl,hp,hc,hg,hm,q⟩:=h;obtain⟨c,rfl⟩:=JP (κ:=A8.mk Ab Ad Ae Ag Al Am Ac Ak) (O9 L) hc;unfold CdAt at hp;obtain⟨_,dx,e,hp⟩:=hp;cases e;have one:1<=sizeLine:=by rw[zCv]; decide
 have two:2<=sizeLine:=by rw[zCv]; decide
 refine⟨_,(An (Az (Bp (Aa (Cp (Aa Dc (Aa (Cc (pv 0) rfl) Ah))) Ah)))),?_⟩;refine⟨_,rfl,p,_,dx,_,_,rfl,hp,L.cl_Over,L.na_Over_cents,Xs c,two,fun t ht=>⟨one,fun l hl=>?_⟩⟩;exact q l _ ((Ai ht _).trans (Ai hl _)) ((Ai ht _).free hl) (by unfold Bv; exact⟨_,Af,⟨t,rfl,Ai hl _ _ _ Af⟩,trivial⟩)
theorem Nv:Aw ["self"] ["self"] (Ar Fw):=by injections
theorem Hw {f:Addr} {fd:zCx} (F:Fun K "marks" "DaysIn.marks" Fw f fd) (L:Kl K mg Ab Ad Ae Ag Al Ak Am Ac As At):FnOk P w K mg base Da 1 f fd ["self"] (En (A8.mk Ab Ad Ae Ag Al Am Ac Ak) Ag):=by
 have sc:=Nv;bv_omega
 ·obtain⟨_,_,rfl,_⟩:=h
  rfl
 obtain⟨p,t,rfl,hp,hc,hg,hm,q⟩:=h;obtain⟨a,b,rfl⟩:=JA (κ:=A8.mk Ab Ad Ae Ag Al Am Ac Ak) (O9 L) hc;unfold CdAt at hp;obtain⟨_,dx,e,hp⟩:=hp;cases e;have two:2<=sizeLine:=by rw[zCv]; decide
 refine⟨_,(An (Az (Bp (Aa (Cp (Aa Dc (Aa (Cc (pv 0) rfl) Ah))) (Aa (Cp (Aa Dc (Aa (Bc Bw (Cc (pv 0) rfl) Ao) Ah))) Ah))))),?_⟩;refine⟨_,rfl,p,_,dx,_,_,rfl,hp,L.cl_DaysIn,L.na_DaysIn_first,Wo a b,two,fun t ht=>?_⟩;have s1:=Ai ht (.tup [.str "day",.int a]);refine⟨_,rfl,p,_,dx,_,_,rfl,s1 _ _ hp,L.cl_DaysIn,L.na_DaysIn_last,C2 a b,_,_,rfl,rfl,two,fun t2 ht2=>?_⟩;have s2:=Ai ht2 (.tup [.str "day",.int (b+1)]);refine⟨two,fun l hl=>?_⟩;have s3:=Ai hl (.lst [.ref t,.ref t2]);exact q l _ (s1.trans (s2.trans s3)) (s1.free (s2.free hl)) (by unfold Bv; exact⟨_,Af,⟨t,rfl,s3 _ _ (s2 _ _ Af)⟩,⟨t2,rfl,s3 _ _ Af⟩,trivial⟩)
theorem Rc:Aw ["several", "told", "part"] ["several"] (Ar Hi):=by injections
theorem Rg {f:Addr} {fd:zCx} (F:Fun K "marks_with" "marks_with" Hi f fd) (Mmarks:Ry P w K mg base 1 (U9 (A8.mk Ab Ad Ae Ag Al Am Ac Ak)) "marks" ["self"] (En (A8.mk Ab Ad Ae Ag Al Am Ac Ak))):FnOk P w K mg base Da 2 f fd ["several"] (DA (A8.mk Ab Ad Ae Ag Al Am Ac Ak)):=by
 have sc:=Rc;bv_omega
 ·obtain⟨_,_,_,rfl,_⟩:=h
  rfl
 obtain⟨a,us,ts,rfl,ha,cds,hg,hm,q⟩:=h;have hlen:=cds.len;refine⟨_,(Aj (Ba (i:=1) sc.nd rfl (Or.inl rfl) (Bp Ah))
   (Aj (Cg PassesOwn.never rfl (Bg (pv 0)) (Ax (i:=2) sc.nd rfl (Or.inl rfl))
    (An (Ck (Fu PySem.F.plainAttrs_list PySem.F.slot_list_extend PySem.F.type_list_extend Dz (pv 1) (Aa (Sl Mmarks (hr.mono (by decide)) (pv 2)) Ah)))))
   (An (Az (pv 1))))),?_⟩
 refine⟨zAk _,fun pt npt=>?_⟩;have e0:marksTs []=[]:=by unfold marksTs; rfl
 refine⟨_,rfl,a,rfl,⟨_,SqL.of (Ai npt _ _ _ ha)⟩,?_⟩;refine Cf (K:=K) (a:=a) (xs:=us) (fun i σ H2=>(∃ o,σ=[some (.ref a),some (.ref pt),o])/\Same H H2/\MkAt H2 pt (marksTs (ts.take i))) ⟨⟨none,rfl⟩,Ai npt _,[],Af,by rw[zBJ,e0]; trivial⟩ (fun i σ H2 _ ⟨_,e,_⟩=>SqL.of (e _ _ ha)) ?_ ?_
 ·rintro i v σ H2 hi ⟨⟨o,rfl⟩,s2,xs,h2,mk⟩
  obtain⟨u,eu,hu⟩:=cds.get hi;obtain⟨c0,rfl⟩:=hg u (zAB eu);have hu2:=hu.same s2;obtain⟨pu,du,fu,rfl,ob,_,_,_,n1⟩:=hu2.obj;have part:=Vl (zAB eu);have tk:=Vc ts i;refine⟨_,rfl,.inl ⟨rfl,_,SqL.of h2⟩,_,rfl,pu,_,du,fu,rfl,ob,GA _ c0,n1,pu,.at c0,rfl,hu2,rfl,trivial,by lia,fun l H3 s3 nl ⟨ys,hl,mk2⟩=>?_⟩;have l1:=mk.len;have l2:=mk2.len;refine⟨pt,l,xs,ys,rfl,rfl,s3 _ _ h2,hl,by rw[zCv]; lia,⟨_,rfl⟩,Bj npt (s2.trans s3),xs++ys,Af,?_⟩;have kp:∀ t zs,H3 t=some (.tup zs)->upd H3 pt (.lst (xs++ys)) t=some (.tup zs):=fun t zs e=>by
   rw[Aq (Ii e (s3 _ _ h2) (by intro z; cases z))]; exact e
  rw[Dd eu,Ub];exact (mk.mono fun t zs e=>kp t zs (s3 _ _ e)).app (mk2.mono kp)
 ·rintro σ H2 ⟨⟨o,rfl⟩,s2,mk⟩
  rw[hlen,zAO] at mk;exact⟨_,rfl,q pt H2 s2 npt mk⟩
theorem Rw:Aw ["self"] ["self"] (Ar Ht):=by injections
theorem Rq {f:Addr} {fd:zCx} (F:Fun K "marks" "Some.marks" Ht f fd) (L:Kl K mg Ab Ad Ae Ag Al Ak Am Ac As At) (Cmarks_with:Cr P w K mg base 2 "marks_with" ["several"] (DA (A8.mk Ab Ad Ae Ag Al Am Ac Ak))):FnOk P w K mg base Da 3 f fd ["self"] (En (A8.mk Ab Ad Ae Ag Al Am Ac Ak) Ak):=by
 have sc:=Rw;bv_omega
 ·obtain⟨_,_,rfl,_⟩:=h
  rfl
 obtain⟨p,t,rfl,hp,hc,hg,hm,q⟩:=h;obtain⟨ts,rfl⟩:=JH (κ:=A8.mk Ab Ad Ae Ag Al Am Ac Ak) (O9 L) hc;unfold Bv at hm q;unfold CdAt at hp;obtain⟨_,dx,a,us,e,hp,ha,hv⟩:=hp;cases e;refine⟨_,(An (Az (Av Cmarks_with (hr.mono (by decide)) rfl (Aa (Cc (pv 0) rfl) Ah)))),?_⟩;exact⟨_,rfl,p,_,dx,_,_,rfl,hp,L.cl_Some,L.na_Some_several,X7 _ _,a,us,ts,rfl,ha,hv,hg,hm,fun l H' s' nl mk=>q l H' s' nl mk⟩
end
def Bz (so:Str) (ms:List Ot):List V:=(ms.filter fun m=>decide (m.1=so)).map (·.2)
theorem Fn (so:Str) (ms:List Ot):(Bz so ms).length<=ms.length:=by
 unfold Bz;rw[zAb];exact zAG _ _
theorem Sq (so:Str) (ms ns:List Ot):Bz so (ms++ns)=Bz so ms++Bz so ns:=by
 unfold Bz;rw[zBv,zAz]
theorem Sr (so:Str) (m:Ot):Bz so [m]=if m.1=so then [m.2] else []:=by
 unfold Bz;by_cases c:m.1=so
 ·simp [c]
 ·simp [c]
def Pe:Sp:=fun vs H Q _=>∃ a so ms,vs=[.ref a,.str so]/\MkAt H a ms/\ms.length<=60 /\
 ((∃ ns:List Int,Bz so ms=ns.map V.int/\∀ l zs H',Same H H'->H l=none->H' l=some (.lst (List.map V.int zs))->zs.Pairwise (· < ·)->(∀ y,y∈zs↔y∈ns)->Q (.ref l) H') \/
   (∃ ns:List Str,Bz so ms=ns.map V.str/\∀ l zs H',Same H H'->H l=none->H' l=some (.lst (List.map V.str zs))->zs.Nodup->PyProof.Rows.sortedS zs=true->(∀ y,y∈zs↔y∈ns)->Q (.ref l) H'))
section
variable {P:Program} {w:World} {K:zAa} {mg:Str->Option Value} {base:Heap}
theorem M0:Aw ["marks", "sort"] ["marks", "sort"] (Ar Oy):=by injections
theorem M7 {f:Addr} {fd:zCx} (F:Fun K "marked" "marked" Oy f fd) (T:Txt K mg):FnOk P w K mg base Da 1 f fd ["marks", "sort"] Pe:=by
 have sc:=M0;bv_omega
 ·obtain⟨_,_,_,rfl,_⟩:=h
  rfl
 obtain⟨a,so,ms,rfl,⟨xs,ha,mk⟩,l6,alt⟩:=h;refine⟨_,(An (Az (Wu (Cj (NC:=["kind", "what", "sort"]) (own:=["kind", "what"]) (cs:=["sort"]) (ix:=[1]) rfl (CompScope.of rfl) rfl ⟨⟨rfl,.inl rfl,rfl⟩,trivial⟩ (Bg (pv 0)) (fun _ _ _=>(Lp (K:=K) (n:=2) rfl rfl (Bn (Ax (i:=0) (show (["kind", "what", "sort"]:List Str).Nodup from by ac_nf) rfl (Or.inl rfl)) (Bn (Ax (i:=1) (show (["kind", "what", "sort"]:List Str).Nodup from by ac_nf) rfl (Or.inl rfl)) Ds)))) (fun _ _ _=>(Ef (Bd Gg (pv 0) (pv 2) (Bf _)))) (fun _ _ _=>(pv 1))) rfl rfl T.n_sorted rfl T.n_set))),?_⟩;have lx:=mk.len;refine (vE rfl ⟨a,rfl,⟨_,SqL.of ha⟩,fun r nr=>?_⟩);refine Km (K:=K) (a:=a) (xs:=xs) (fun i ys H2=>ys=Bz so (ms.take i)/\H2 r=some (.lst ys)/\Same H H2) ⟨by rw[zBJ]; rfl,Af,Ai nr _⟩
  (fun i ys H2 hi ⟨e,h1,s2⟩=>⟨h1,by rw[e]; exact zAA (Fn _ _) (by rw[zAK]; lia),SqL.of (s2 _ _ ha)⟩) (by rw[zCv]; lia) (fun i x ys H2 hi ⟨e,h1,s2⟩=>?_) (fun ys H2 ⟨e,h1,s2⟩=>?_)
 ·have il:i<ms.length:=by have:=(zAj.mp hi).1; lia
  have em:ms[i]?=some ms[i]:=zAn il;generalize ms[i]=m at em;obtain⟨t,t1,t2⟩:=mk.get em;rw[hi] at t1;cases t1;refine⟨t,_,_,rfl,SqT.of (s2 _ _ t2),?_⟩;refine (vE rfl (vE rfl ⟨rfl,vE rfl ?_⟩));by_cases c:m.1=so
  ·refine dT (congrArg V.str c) (vE rfl ⟨h1,rfl,?_,Af,Bj nr s2⟩)
   rw[Dd em,Sq,Sr,if_pos c,e]
  ·refine dF (fun z=>c (V.str.inj z)) ⟨rfl,?_,h1,s2⟩
   rw[Dd em,Sq,Sr,if_neg c,zAJ,e]
 rw[lx,zAO] at e;have wl:=Fn so ms;rcases alt with ⟨ns,ew,q⟩ | ⟨ns,ew,q⟩
 ·have ln:ns.length<=ms.length:=by rw[ew,zAb] at wl; exact wl
  exact .inl ⟨r,ns,rfl,SqL.of (by rw[<- ew,<- e]; exact h1),by lia,fun l zs nl pw mem=>q l zs _ (s2.trans (Ai nl _)) (s2.free nl) Af pw mem⟩
 ·have ln:ns.length<=ms.length:=by rw[ew,zAb] at wl; exact wl
  exact .inr ⟨r,ns,rfl,SqL.of (by rw[<- ew,<- e]; exact h1),by lia,fun l zs nl nd so mem=>q l zs _ (s2.trans (Ai nl _)) (s2.free nl) Af nd so mem⟩
end
structure Cw where
 p:Addr
 nm:Str
 t:Cnd
 wt:Bool
def Sa (x:Cw):V:=.ref x.p
def CwAt (κ:A8) (C:Addr) (H:Hp) (x:Cw):Prop:=∃ dx fs cv cl,H x.p=some (.ins C dx fs)/\fs.lookup ("name" : Str)=some (.str x.nm)/\fs.lookup ("condition" : Str)=some cv/\fs.lookup ("clauses" : Str)=some (.ref cl)/\fs.lookup ("waits" : Str)=some (.bl x.wt)/\noM5 fs/\CdAt κ H cv x.t/\nn x.t/\H cl=some (.lst [])
theorem CwAt.same {κ:A8} {C:Addr} {H H':Hp} {x:Cw} (h:CwAt κ C H x) (s:Same H H'):CwAt κ C H' x:=by
 obtain⟨dx,fs,cv,cl,e,a1,a2,a3,a4,a5,a6,a7,a8⟩:=h;exact⟨dx,fs,cv,cl,s _ _ e,a1,a2,a3,a4,a5,CdAt.same s _ a6,a7,s _ _ a8⟩
def Re (cs:List Cw):List Cw:=cs.filter (fun x => !x.wt)++cs.filter (fun x=>x.wt)
def BwAt (κ:A8) (C CB:Addr) (H:Hp) (b:Addr) (cs:List Cw):Prop:=∃ dx fs cl ak,H b=some (.ins CB dx fs)/\fs.lookup ("covers" : Str)=some (.ref cl)/\fs.lookup ("asking" : Str)=some (.ref ak)/\H cl=some (.lst (cs.map Sa))/\H ak=some (.lst ((Re cs).map Sa))/\∀ x∈cs,CwAt κ C H x
theorem BwAt.same {κ:A8} {C CB:Addr} {H H':Hp} {b:Addr} {cs:List Cw} (h:BwAt κ C CB H b cs) (s:Same H H'):BwAt κ C CB H' b cs:=by
 obtain⟨dx,fs,cl,ak,e,a1,a2,a3,a4,a5⟩:=h;exact⟨dx,fs,cl,ak,s _ _ e,a1,a2,s _ _ a3,s _ _ a4,fun x hx=>(a5 x hx).same s⟩
def mB (cs:List Cw):List Ot:=(cs.map fun x=>Bv x.t).flatten
theorem B9 (cs:List Cw) (x:Cw):mB (cs++[x])=mB cs++Bv x.t:=by
 unfold mB;rw[zAz,List.flatten_append];simp
theorem FW {cs:List Cw} {i:Nat}:(mB (cs.take i)).length<=(mB cs).length:=by
 have:mB cs=mB (cs.take i)++mB (cs.drop i):=by
  unfold mB;rw[<- List.flatten_append,<- zAz,List.take_append_drop]
 rw[this,zAi]
 lia
theorem BK {cs:List Cw} {i:Nat} {x:Cw} (h:cs[i]?=some x):(mB (cs.take i)).length+(Bv x.t).length<=(mB cs).length:=by
 have:=FW (cs:=cs) (i:=i+1);rw[Dd h,B9,zAi] at this;exact this
def IJ:Ot->Prop:=fun m=>((m.1 = "cause" \/ m.1 = "thing")/\∃ n,m.2 = .str n)\/((m.1 = "day" \/ m.1 = "cents")/\∃ i,m.2 = .int i)
mutual
theorem P7:∀ (t:Cnd),∀ m∈Bv t,IJ m
 | .at c,m,h=>by
  unfold Bv at h;cases c with
  | alw=>exact nomatch h
  | cau n=>rw[zAg.mp h]; exact .inl ⟨.inl rfl,n,rfl⟩
  | thi n=>rw[zAg.mp h]; exact .inl ⟨.inr rfl,n,rfl⟩
  | day a b=>
   rcases zAp.mp h with e | e
   ·rw[e]; exact .inr ⟨.inl rfl,a,rfl⟩
   ·rw[zAg.mp e]; exact .inr ⟨.inl rfl,b+1,rfl⟩
  | ovr k=>rw[zAg.mp h]; exact .inr ⟨.inr rfl,k,rfl⟩
 | .no t,m,h=>by unfold Bv at h; exact P7 t m h
 | .al ts,m,h=>by unfold Bv at h; exact isW_Ts ts m h
 | .so ts,m,h=>by unfold Bv at h; exact isW_Ts ts m h
theorem isW_Ts:∀ (ts:List Cnd),∀ m∈marksTs ts,IJ m
 | [],m,h=>by unfold marksTs at h; exact nomatch h
 | t::ts,m,h=>by
  unfold marksTs at h;rcases zAy.mp h with e | e
  ·exact P7 t m e
  ·exact isW_Ts ts m e
end
theorem BW (cs:List Cw):∀ m∈mB cs,IJ m:=fun m h=>by
 unfold mB at h;obtain⟨l,hl,hm⟩:=List.mem_flatten.mp h;obtain⟨x,_,rfl⟩:=zAR.mp hl;exact P7 x.t m hm
theorem Ya:∀ {l:List V},(∀ v∈l,∃ n,v = .str n)->∃ ns:List Str,l=ns.map V.str
 | [],_=>⟨[],rfl⟩
 | v::l,h=>by
  obtain⟨n,rfl⟩:=h v zAo;obtain⟨ns,rfl⟩:=Ya fun v hv=>h v (zAs _ hv);exact⟨n::ns,rfl⟩
theorem Xw:∀ {l:List V},(∀ v∈l,∃ n,v = .int n)->∃ ns:List Int,l=ns.map V.int
 | [],_=>⟨[],rfl⟩
 | v::l,h=>by
  obtain⟨n,rfl⟩:=h v zAo;obtain⟨ns,rfl⟩:=Xw fun v hv=>h v (zAs _ hv);exact⟨n::ns,rfl⟩
theorem Ml {so:Str} {ms:List Ot} {v:V} (h:v∈Bz so ms):(so,v)∈ms:=by
 unfold Bz at h;obtain⟨m,hm,rfl⟩:=zAR.mp h;obtain⟨h1,h2⟩:=zBb.mp hm;rw[<- of_decide_eq_true h2];exact h1
theorem Q2 {cs:List Cw} {so:Str} (h:so = "cause" \/ so = "thing"):∃ ns:List Str,Bz so (mB cs)=ns.map V.str:=Ya fun v hv=>by
 rcases BW cs _ (Ml hv) with ⟨_,e⟩ | ⟨e,_⟩
 ·exact e
 ·exfalso
  have e:so = "day" \/ so = "cents" := e;rcases h with h | h <;> rcases e with e | e <;> exact absurd (h.symm.trans e) (by ac_nf)
theorem V9 {cs:List Cw} {so:Str} (h:so = "day" \/ so = "cents"):∃ ns:List Int,Bz so (mB cs)=ns.map V.int:=Xw fun v hv=>by
 rcases BW cs _ (Ml hv) with ⟨e,_⟩ | ⟨_,e⟩
 ·exfalso
  have e:so = "cause" \/ so = "thing" := e;rcases h with h | h <;> rcases e with e | e <;> exact absurd (h.symm.trans e) (by ac_nf)
 ·exact e
def Gs (κ:A8) (C CB:Addr):Sp:=fun vs H Q _=>∃ b cs,vs=[.ref b]/\BwAt κ C CB H b cs/\(mB cs).length<=60 /\
 ∀ r la lb lc ld A B D E H',Same H H'->H' r=some (.tup [.ref la,.ref lb,.ref lc,.ref ld])->H' la=some (.lst (List.map V.str A))->H' lb=some (.lst (List.map V.str B))->H' lc=some (.lst (List.map V.int D))->H' ld=some (.lst (List.map V.int E)) ->
  A.Nodup->(∀ y,y∈A↔V.str y∈Bz "cause" (mB cs))->B.Nodup->(∀ y,y∈B↔V.str y∈Bz "thing" (mB cs))->D.Pairwise (· < ·)->(∀ y,y∈D↔(V.int y∈Bz "day" (mB cs)/\1<=y/\y<=1000000))->E.Pairwise (· < ·)->(∀ y,y∈E↔V.int y∈Bz "cents" (mB cs))->Q (.ref r) H'
theorem Vn {y:Str} {ns:List Str}:V.str y∈ns.map V.str↔y∈ns:=by
 rw[zAR];exact⟨fun ⟨z,hz,e⟩=>V.str.inj e▸hz,fun h=>⟨y,h,rfl⟩⟩
theorem Wg {y:Int} {ns:List Int}:V.int y∈ns.map V.int↔y∈ns:=by
 rw[zAR];exact⟨fun ⟨z,hz,e⟩=>V.int.inj e▸hz,fun h=>⟨y,h,rfl⟩⟩
def O1 (y:Int):Bool:=decide (1<=y)&&decide (y<=1000000)
section
variable {P:Program} {w:World} {K:zAa} {mg:Str->Option Value} {base:Heap} {Ab Ad Ae Ag Al Ak Am Ac As At:Addr}
theorem Vx:Aw ["book", "marks", "cover", "days"] ["book"] (Ar Kp):=by injections
theorem Vy {f:Addr} {fd:zCx} (F:Fun K "marks_of" "marks_of" Kp f fd) (T:Txt K mg) (L:Kl K mg Ab Ad Ae Ag Al Ak Am Ac As At) (Cmarked:Cr P w K mg base 1 "marked" ["marks", "sort"] Pe) (Mmarks:Ry P w K mg base 3 (V7 (A8.mk Ab Ad Ae Ag Al Am Ac Ak)) "marks" ["self"] (En (A8.mk Ab Ad Ae Ag Al Am Ac Ak))) :
  FnOk P w K mg base Da 4 f fd ["book"] (Gs (A8.mk Ab Ad Ae Ag Al Am Ac Ak) Ac As):=by
 have sc:=Vx;bv_omega
 ·obtain⟨_,_,rfl,_⟩:=h
  rfl
 obtain⟨b,cs,rfl,⟨dx,fs,cl,ak,hb,f1,f2,hcl,hak,all⟩,l6,q⟩:=h;refine⟨_,(Aj (Ba (i:=1) sc.nd rfl (Or.inl rfl) (Bp Ah))
   (Aj (Cg PassesOwn.never rfl (Bg (Cc (pv 0) rfl)) (Ax (i:=2) sc.nd rfl (Or.inl rfl))
    (An (Ck (Fu PySem.F.plainAttrs_list PySem.F.slot_list_extend PySem.F.type_list_extend Dz (pv 1) (Aa (Sl Mmarks (hr.mono (by decide)) (Cc (pv 2) rfl)) Ah)))))
   (Aj (Cs (NC:=["day"]) (own:=["day"]) (cs:=[]) (ix:=[]) (j:=3) sc.nd rfl rfl rfl (CompScope.of rfl) rfl trivial (Bg (Av Cmarked (hr.mono (by decide)) rfl (Aa (pv 1) (Aa Dc Ah)))) (fun _ _ _=>(Ax (i:=0) (show (["day"]:List Str).Nodup from by ac_nf) rfl (Or.inl rfl))) (fun _ _ _=>(Ef (Wz Ij Ij Ao (pv 0) (Cu T.g_LAST_DAY rfl)))) (fun _ _ _=>(pv 0)))
   (An (Az (Cp (Aa (Av Cmarked (hr.mono (by decide)) rfl (Aa (pv 1) (Aa Dc Ah))) (Aa (Av Cmarked (hr.mono (by decide)) rfl (Aa (pv 1) (Aa Dc Ah))) (Aa (pv 3) (Aa (Av Cmarked (hr.mono (by decide)) rfl (Aa (pv 1) (Aa Dc Ah))) Ah)))))))))),?_⟩
 refine⟨zAk _,fun mk nmk=>?_⟩;refine Dt [some (.ref b),some (.ref mk),none,none] rfl ?_;have s1:=Ai nmk (.lst []);have h1:MkAt (upd H mk (.lst [])) mk []:=⟨[],Af,trivial⟩;generalize upd H mk (.lst [])=H1 at s1 h1;refine (vE rfl ⟨b,As,dx,fs,_,rfl,s1 _ _ hb,L.cl_Book,L.na_Book_covers,f1,cl,rfl,⟨_,SqL.of (s1 _ _ hcl)⟩,?_⟩);refine Cf (K:=K) (a:=cl) (xs:=cs.map Sa) (fun i σ H2=>(∃ o2,σ=[some (.ref b),some (.ref mk),o2,none])/\Same H H2/\MkAt H2 mk (mB (cs.take i))) ⟨⟨none,rfl⟩,s1,by rw[zBJ]; exact h1⟩ (fun i σ H2 _ hh=>SqL.of (hh.2.1 _ _ hcl)) ?_ ?_
 ·rintro i x σ H2 hi ⟨⟨o2,rfl⟩,s2,xs,h2,mks⟩
  rw[zAu] at hi;obtain⟨c,hc,rfl⟩:=zAD.mp hi;have lp:=BK hc;obtain⟨cx,gs,cv,cc,e1,_,e2,_,_,_,e6,nt,_⟩:=(all c (zAB hc)).same s2;obtain⟨pu,du,fu,rfl,ob,_,_,_,n1⟩:=e6.obj;refine Dt [some (.ref b),some (.ref mk),some (.ref c.p),none] rfl ?_;refine (vE rfl ⟨.inl ⟨rfl,_,SqL.of h2⟩,vE rfl ⟨c.p,Ac,cx,gs,_,rfl,e1,L.cl_Cover,L.na_Cover_condition,e2,pu,_,du,fu,rfl,ob,GB _ nt,n1,pu,c.t,rfl,e6,rfl,nt,by lia,fun l H3 s3 nl ⟨ys,hl,mk2⟩=>?_⟩⟩);have l1:=mks.len;have l2:=mk2.len;refine⟨mk,l,xs,ys,rfl,rfl,s3 _ _ h2,hl,by rw[zCv]; lia,⟨_,rfl⟩,Bj nmk (s2.trans s3),xs++ys,Af,?_⟩;have kp:∀ t zs,H3 t=some (.tup zs)->upd H3 mk (.lst (xs++ys)) t=some (.tup zs):=fun t zs e=>by
   rw[Aq (Ii e (s3 _ _ h2) (by intro z; cases z))]; exact e
  rw[Dd hc,B9];exact (mks.mono fun t zs e=>kp t zs (s3 _ _ e)).app (mk2.mono kp)
 ·rintro σ H2 ⟨⟨o2,rfl⟩,s2,mks⟩
  rw[zAb,zAO] at mks;obtain⟨nc,ec⟩:=Q2 (cs:=cs) (.inl rfl);obtain⟨nt,et⟩:=Q2 (cs:=cs) (.inr rfl);obtain⟨nd,ed⟩:=V9 (cs:=cs) (.inl rfl);obtain⟨ne,ee⟩:=V9 (cs:=cs) (.inr rfl);refine (vE rfl ⟨mk, "day",mB cs,rfl,mks,l6,.inl ⟨nd,ed,fun l ds H3 s3 nl hl pw mem=>⟨l,rfl,⟨_,SqL.of hl⟩,fun r nr=>?_⟩⟩⟩);have lds:ds.length<=60:=by
   have:=Gf (l:=ds) (m:=nd) (pw.imp fun h=>Int.ne_of_lt h) fun x hx=>(mem x).mp hx;have w:=Fn "day" (mB cs);rw[ed,zAb] at w
   lia
  refine Bo (K:=K) (a:=l) (xs:=ds.map V.int) (fun i ys H4=>ys=((ds.take i).filter O1).map V.int/\H4 r=some (.lst ys)/\Same H3 H4) ⟨by rw[zBJ]; rfl,Af,Ai nr _⟩
   (fun i ys H4 hi ⟨e,h4,s4⟩=>⟨h4,by rw[e,zAb]; exact zAA (zAG _ _) (by rw[zAK]; lia),SqL.of (s4 _ _ hl)⟩) (by rw[zCv,zAb]; lia) (fun i x ys H4 hi ⟨e,h4,s4⟩=>?_) (fun ys H4 ⟨e,h4,s4⟩=>?_)
  ·rw[zAu] at hi
   obtain⟨y,hy,rfl⟩:=zAD.mp hi;have es:(ds.take (i+1)).filter O1=(ds.take i).filter O1++if O1 y=true then [y] else []:=by
    rw[Dd hy,zBv];by_cases c:O1 y=true
    ·rw[if_pos c,zBA c,zBe]
    ·rw[if_neg c,zBB c,zBe]
   refine (vE rfl (vF rfl rfl (vE rfl ?_)));by_cases c1:(1:Int)<=y
   ·refine dT c1 (vF rfl rfl (vE rfl ?_))
    by_cases c2:y<=1000000
    ·have c:O1 y=true:=by unfold O1; rw[decide_eq_true c1,decide_eq_true c2]; rfl
     refine dT c2 (vE rfl ⟨h4,rfl,?_,Af,Bj nr s4⟩);rw[es,if_pos c,zAz,e];rfl
    ·have c:¬ O1 y=true:=by unfold O1; rw[decide_eq_false c2,Bool.and_false]; exact zAr
     refine dF c2 ⟨rfl,?_,h4,s4⟩;rw[es,if_neg c,zAJ,e]
   ·have c:¬ O1 y=true:=by unfold O1; rw[decide_eq_false c1,Bool.false_and]; exact zAr
    refine dF c1 (vE rfl (Dk ⟨rfl,?_,h4,s4⟩));rw[es,if_neg c,zAJ,e]
  rw[zAb,zAO] at e;subst e;refine Dt [some (.ref b),some (.ref mk),o2,some (.ref r)] rfl ?_;have mks4:=mks.same (s3.trans s4);refine (vE rfl ⟨mk, "cause",mB cs,rfl,mks4,l6,.inr ⟨nc,ec,fun la A H5 s5 nla hla ndA _ memA=>?_⟩⟩);refine (vE rfl ⟨mk, "thing",mB cs,rfl,mks4.same s5,l6,.inr ⟨nt,et,fun lb B H6 s6 nlb hlb ndB _ memB=>?_⟩⟩);refine (vE rfl (vE rfl ⟨mk, "cents",mB cs,rfl,mks4.same (s5.trans s6),l6,.inl ⟨ne,ee,fun ld E' H7 s7 nld hld pwE memE=>?_⟩⟩));refine⟨Bk (by show 4<=1000; decide),fun t nt'=>?_⟩;have s8:=Ai nt' (.tup [V.ref la,.ref lb,.ref r,.ref ld]);have s57:=s5.trans (s6.trans s7);refine q t la lb r ld A B (ds.filter O1) E' _ (s2.trans (s3.trans (s4.trans (s57.trans s8)))) Af (s8 _ _ (s7 _ _ (s6 _ _ hla))) (s8 _ _ (s7 _ _ hlb)) (s8 _ _ (s57 _ _ h4)) (s8 _ _ hld) ndA (fun y=>?_) ndB (fun y=>?_) (pw.filter _) (fun y=>?_) pwE (fun y=>?_)
  ·rw[memA,ec,Vn]
  ·rw[memB,et,Vn]
  ·rw[zBb,mem,ed,Wg]
   unfold O1;rw[zBt,decide_eq_true_eq,decide_eq_true_eq]
  ·rw[memE,ee,Wg]
theorem HE {D:Jm} {t:TS} {H:Hp} {σ:St} (σ':St) (e:σ=σ') (h:t D σ' H):t D σ H:=by rw[e]; exact h
def Oj (κ:A8) (C:Addr):Sp:=fun vs H Q _=>∃ x l z,vs=[.ref x.p,.ref l]/\CwAt κ C H x/\Z2 H l z/\Q (.bl (hT x.t z)) H
def Lq (κ:A8) (C:Addr):Sp:=fun vs H Q _=>∃ x n c,vs=[.ref x.p,n,c]/\CwAt κ C H x/\∀ l H',Same H H'->H l=none->H' l=some (.lst [])->Q (.ref l) H'
def Va (κ:A8) (C:Addr):Sp:=fun vs H Q _=>∃ x n,∃ c:Int,vs=[.ref x.p,n,.int c]/\CwAt κ C H x/\0<c/\∀ t H',Same H H'->H t=none->H' t=some (.tup [.int 0,.int c])->Q (.ref t) H'
def Lo (κ:A8) (C:Addr):Sp:=fun vs H Q _=>∃ x n,vs=[.ref x.p,n]/\CwAt κ C H x/\∀ H',Same H H'->Q .non H'
def X2:Sp:=fun vs H Q _=>∃ a,∃ c:Int,vs=[.ref a,.int c]/\H a=some (.lst [])/\∀ H',Same H H'->Q (.int (-1)) H'
def Zu:Sp:=fun vs H Q _=>∃ a,∃ c:Int,vs=[.ref a,.int c]/\H a=some (.lst [])/\0<c/\∀ l H',Same H H'->H l=none->H' l=some (.lst [.int 0,.int c])->Q (.ref l) H'
def Pp (κ:A8) (C:Addr):Sp:=fun vs H Q _=>∃ x n,∃ c:Int,vs=[.ref x.p,n,.int c]/\CwAt κ C H x/\0<c/\∀ l t H',Same H H'->H l=none->H' l=some (.lst [.ref t])->H' t=some (.tup [.int 0,.int c,.int (-1)])->Q (.ref l) H'
theorem ET {ms:List Int} {c:Int} (c0:0<c) (pw:ms.Pairwise (· < ·)) (mem:∀ y,y∈ms↔y∈[0,c]):ms=[0,c]:=by
 have m0:=(mem 0).mpr (by simp);have mc:=(mem c).mpr (by simp);have al:∀ y∈ms,y=0\/y=c:=fun y hy=>by
  have:=(mem y).mp hy
  simpa using this
 match ms,pw,m0,mc,al with
 | [],_,h,_,_=>exact nomatch h
 | [a],_,h1,h2,_=>
  have e1:=zAg.mp h1;have e2:=zAg.mp h2
  lia
 | [a,b],pw,h1,h2,al=>
  rw[zBu] at pw;have l:=pw.1 b zAo;have ea:=al a zAo;have eb:=al b (zAs _ zAo);rw[show a=0 by lia,show b=c by lia]
 | a::b::d::r,pw,_,_,al=>
  exfalso;rw[zBu,zBu] at pw;have l1:=pw.1 b zAo;have l2:=pw.2.1 d zAo;have ea:=al a zAo;have eb:=al b (zAs _ zAo);have ed:=al d (zAs _ (zAs _ zAo))
  lia
theorem Ro:Aw ["self", "loss"] ["self", "loss"] (Ar Ho):=by injections
theorem Ri {f:Addr} {fd:zCx} (F:Fun K "asks" "Cover.asks" Ho f fd) (T:Txt K mg) (L:Kl K mg Ab Ad Ae Ag Al Ak Am Ac As At) (Mholds:Ry P w K mg base 2 (V7 (A8.mk Ab Ad Ae Ag Al Am Ac Ak)) "holds" ["self", "loss"] (Ep (A8.mk Ab Ad Ae Ag Al Am Ac Ak))):FnOk P w K mg base Da 3 f fd ["self", "loss"] (Oj (A8.mk Ab Ad Ae Ag Al Am Ac Ak) Ac):=by
 have sc:=Ro;bv_omega
 ·obtain⟨_,_,_,rfl,_⟩:=h
  rfl
 obtain⟨x,l,z,rfl,⟨dx,fs,cv,cl,e,a1,a2,a3,a4,a5,a6,a7,a8⟩,hl,q⟩:=h;refine⟨_,(An (Az (Xr Mholds (hr.mono (by decide)) (Cc (pv 0) rfl) (Aa (pv 1) Ah)))),?_⟩;obtain⟨cp,dc,fc,rfl,hc,n1,_⟩:=a6.obj;exact (vE rfl ⟨x.p,Ac,dx,fs,_,rfl,e,L.cl_Cover,L.na_Cover_condition,a2,cp,_,dc,fc,rfl,hc,GB _ a7,n1,_,rfl,cp,x.t,l,z,rfl,a6,rfl,a7,hl,q⟩)
theorem Pa:Aw ["self", "counts", "cents"] ["self", "counts", "cents"] (Ar Gi):=by injections
theorem Ov {f:Addr} {fd:zCx} (F:Fun K "spans" "Cover.spans" Gi f fd) (T:Txt K mg) (L:Kl K mg Ab Ad Ae Ag Al Ak Am Ac As At):FnOk P w K mg base Da 1 f fd ["self", "counts", "cents"] (Lq (A8.mk Ab Ad Ae Ag Al Am Ac Ak) Ac):=by
 have sc:=Pa;bv_omega
 ·obtain⟨_,_,_,rfl,_⟩:=h
  rfl
 obtain⟨x,n,c,rfl,⟨dx,fs,cv,cl,e,a1,a2,a3,a4,a5,a6,a7,a8⟩,q⟩:=h;refine⟨_,(An (Az (Cj (NC:=["k", "clause", "cents", "counts"]) (own:=["k", "clause"]) (cs:=["cents", "counts"]) (ix:=[2,1]) rfl (CompScope.of rfl) rfl ⟨⟨rfl,.inl rfl,rfl⟩,⟨⟨rfl,.inl rfl,rfl⟩,trivial⟩⟩ (Ld rfl T.n_enumerate (Aa (Cc (pv 0) rfl) Ah)) (fun _ _ _=>(Lp (K:=K) (n:=2) rfl rfl (Bn (Ax (i:=0) (show (["k", "clause", "cents", "counts"]:List Str).Nodup from by ac_nf) rfl (Or.inl rfl)) (Bn (Ax (i:=1) (show (["k", "clause", "cents", "counts"]:List Str).Nodup from by ac_nf) rfl (Or.inl rfl)) Ds)))) (fun _ _ _=>By) (fun _ _ _=>Xi)))),?_⟩;refine (vE rfl ⟨x.p,Ac,dx,fs,_,rfl,e,L.cl_Cover,L.na_Cover_clauses,a3,cl,rfl,⟨_,SqL.of a8⟩,fun r nr=>?_⟩);refine Tb (K:=K) (a:=cl) (xs:=[]) (fun i ys H2=>ys=[]/\H2 r=some (.lst [])/\Same H H2) ⟨rfl,Af,Ai nr _⟩ (fun i ys H2 _ ⟨e,h1,s2⟩=>⟨by rw[e]; exact h1,by rw[e]; exact zAk _,SqL.of (s2 _ _ a8)⟩) (zAk _) (fun i y ys H2 t hi=>by simp at hi) (fun ys H2 ⟨e,h1,s2⟩=>q r H2 s2 nr h1)
theorem Rk:Aw ["self", "counts", "least", "k", "clause", "room"] ["self", "counts"] (Ar Hh):=by injections
theorem Rj {f:Addr} {fd:zCx} (F:Fun K "rest" "Cover.rest" Hh f fd) (T:Txt K mg) (L:Kl K mg Ab Ad Ae Ag Al Ak Am Ac As At):FnOk P w K mg base Da 1 f fd ["self", "counts"] (Lo (A8.mk Ab Ad Ae Ag Al Am Ac Ak) Ac):=by
 have sc:=Rk;bv_omega
 ·obtain⟨_,_,rfl,_⟩:=h
  rfl
 obtain⟨x,n,rfl,⟨dx,fs,cv,cl,e,a1,a2,a3,a4,a5,a6,a7,a8⟩,q⟩:=h;refine⟨_,(Aj (Ba (i:=2) sc.nd rfl (Or.inl rfl) Gb)
   (Aj (Cg PassesOwn.never rfl (Ld rfl T.n_enumerate (Aa (Cc (pv 0) rfl) Ah)) (Ig (n:=2) rfl (Bn (Ax (i:=3) sc.nd rfl (Or.inl rfl)) (Bn (Ax (i:=4) sc.nd rfl (Or.inl rfl)) Ds)))
    Mx)
   (An (Az (pv 2))))),?_⟩
 refine DH [some (.ref x.p),some n,some .non,none,none,none] rfl ?_;refine (vE rfl ⟨x.p,Ac,dx,fs,_,rfl,e,L.cl_Cover,L.na_Cover_clauses,a3,cl,rfl,⟨_,SqL.of a8⟩,Pz (K:=K) (a:=cl) (xs:=[]) (fun i σ H2=>σ=[some (.ref x.p),some n,some .non,none,none,none]/\Same H H2) ⟨rfl,fun _ _ z=>z⟩ (fun i σ H2 _ hh=>SqL.of (hh.2 _ _ a8)) ?_ ?_⟩)
 ·rintro i y σ H2 t hi
  simp at hi
 ·rintro σ H2 ⟨rfl,s2⟩
  exact (vE rfl (q _ s2))
theorem Oh:Aw ["self", "counts", "cents", "spans", "lo", "hi"] ["self", "counts", "cents"] (Ar Ft):=by injections
theorem Od {f:Addr} {fd:zCx} (F:Fun K "window" "Cover.window" Ft f fd) (T:Txt K mg) (Mspans:Il P w K mg base 1 Ac "spans" ["self", "counts", "cents"] (Lq (A8.mk Ab Ad Ae Ag Al Am Ac Ak) Ac)):FnOk P w K mg base Da 2 f fd ["self", "counts", "cents"] (Va (A8.mk Ab Ad Ae Ag Al Am Ac Ak) Ac):=by
 have sc:=Oh;bv_omega
 ·obtain⟨_,_,_,rfl,_⟩:=h
  rfl
 obtain⟨x,n,c,rfl,cw,c0,q⟩:=h;obtain⟨dx,fs,cv,cl,e,a1,a2,a3,a4,a5,a6,a7,a8⟩:=id cw;refine⟨_,(Aj (Ba (i:=3) sc.nd rfl (Or.inl rfl) (Dp Mspans (hr.mono (by decide)) (pv 0) (Aa (pv 1) (Aa (pv 2) Ah))))
   (Aj (Ba (i:=4) sc.nd rfl (Or.inl rfl) (Bb (M9 rfl) rfl T.n_max (show zCw _=some (.builtin "max") from rfl) (Aa (Bc Hr (Bp (Aa Ao Ah)) (Cj (NC:=["span"]) (own:=["span"]) (cs:=[]) (ix:=[]) rfl (CompScope.of rfl) rfl trivial (Bg (pv 3)) (fun _ _ _=>(Ax (i:=0) (show (["span"]:List Str).Nodup from by ac_nf) rfl (Or.inl rfl))) (fun _ _ _=>By) (fun _ _ _=>(Be (Db (K:=K) rfl) (pv 0) Ao (fun _ _=>rfl))))) Ah)))
   (Aj (Ba (i:=5) sc.nd rfl (Or.inl rfl) (Bb (I9 rfl) rfl T.n_min (show zCw _=some (.builtin "min") from rfl) (Aa (Bc Hr (Bp (Aa (pv 2) Ah)) (Cj (NC:=["span"]) (own:=["span"]) (cs:=[]) (ix:=[]) rfl (CompScope.of rfl) rfl trivial (Bg (pv 3)) (fun _ _ _=>(Ax (i:=0) (show (["span"]:List Str).Nodup from by ac_nf) rfl (Or.inl rfl))) (fun _ _ _=>By) (fun _ _ _=>(Be (Db (K:=K) rfl) (pv 0) Ao (fun _ _=>rfl))))) Ah)))
   (An (Az (Cp (Aa (pv 4) (Aa (Bb (Lv rfl) rfl T.n_max (show zCw _=some (.builtin "max") from rfl) (Aa (pv 4) (Aa (pv 5) Ah))) Ah)))))))),?_⟩
 have one:1<=sizeLine:=by rw[zCv]; decide
 have two:2<=sizeLine:=by rw[zCv]; decide
 refine (vE rfl ⟨x.p,dx,fs,rfl,e,a5.2.1,vE rfl (vE rfl ⟨x,n,.int c,rfl,cw,fun sp H1 s1 nsp hsp=>?_⟩)⟩);refine Dt [some (.ref x.p),some n,some (.int c),some (.ref sp),none,none] rfl ?_;refine⟨one,fun l1 n1=>?_⟩;have s2:=Ai n1 (.lst [V.int 0]);have h2:upd H1 l1 (.lst [V.int 0]) l1=some (.lst [V.int 0]):=Af;generalize upd H1 l1 (.lst [V.int 0])=H2 at s2 h2;refine (vE rfl ⟨sp,rfl,⟨_,SqL.of (s2 _ _ hsp)⟩,fun r nr=>?_⟩);refine Bo (K:=K) (a:=sp) (xs:=[]) (fun i ys H3=>ys=[]/\H3 r=some (.lst [])/\Same H2 H3) ⟨rfl,Af,Ai nr _⟩ (fun i ys H3 _ ⟨e,h3,s3⟩=>⟨by rw[e]; exact h3,by rw[e]; exact zAk _,SqL.of (s3 _ _ (s2 _ _ hsp))⟩) (zAk _) (fun i y ys H3 hi=>by simp at hi) (fun ys H3 ⟨e3,h3,s3⟩=>?_);refine⟨l1,r,_,_,rfl,rfl,s3 _ _ h2,h3,one,fun l4 n4=>?_⟩;have s4:=Ai n4 (.lst ([V.int 0]++[]));refine⟨l4,[0],rfl,SqL.of Af,by simp,fun m hm _=>?_⟩;obtain rfl:=zAg.mp hm;have S4:=s2.trans (s3.trans s4);clear s2 h2 s3 h3;refine Dt [some (.ref x.p),some n,some (.int c),some (.ref sp),some (.int 0),none] rfl ?_;have hsp4:=S4 _ _ hsp;generalize upd H3 l4 (.lst ([V.int 0]++[]))=H4 at S4 hsp4;refine (vE rfl ⟨one,fun l5 n5=>?_⟩);have s5:=Ai n5 (.lst [V.int c]);have h5:upd H4 l5 (.lst [V.int c]) l5=some (.lst [V.int c]):=Af;generalize upd H4 l5 (.lst [V.int c])=H5 at s5 h5;refine (vE rfl ⟨sp,rfl,⟨_,SqL.of (s5 _ _ hsp4)⟩,fun r6 n6=>?_⟩);refine Bo (K:=K) (a:=sp) (xs:=[]) (fun i ys H6=>ys=[]/\H6 r6=some (.lst [])/\Same H5 H6) ⟨rfl,Af,Ai n6 _⟩ (fun i ys H6 _ ⟨e,h6,s6⟩=>⟨by rw[e]; exact h6,by rw[e]; exact zAk _,SqL.of (s6 _ _ (s5 _ _ hsp4))⟩) (zAk _) (fun i y ys H6 hi=>by simp at hi) (fun ys H6 ⟨e6,h6,s6⟩=>?_)
 refine⟨l5,r6,_,_,rfl,rfl,s6 _ _ h5,h6,one,fun l7 n7=>?_⟩;have s7:=Ai n7 (.lst [V.int c]);refine⟨l7,[c],rfl,SqL.of Af,by simp,fun m hm _=>?_⟩;obtain rfl:=zAg.mp hm;refine Dt [some (.ref x.p),some n,some (.int m),some (.ref sp),some (.int 0),some (.int m)] rfl ?_;have S7:=s1.trans (S4.trans (s5.trans (s6.trans s7)));refine (vE rfl (vE rfl (vE rfl ⟨_,_,rfl,two,fun t nt=>?_⟩)));rw[if_pos (by omega)];exact q t _ (S7.trans (Ai nt _)) (S7.free nt) Af
theorem Mz:Aw ["spans", "cent", "k", "span"] ["spans", "cent"] (Ar Fi):=by injections
theorem Ly {f:Addr} {fd:zCx} (F:Fun K "first_without" "first_without" Fi f fd) (T:Txt K mg):FnOk P w K mg base Da 1 f fd ["spans", "cent"] X2:=by
 have sc:=Mz;bv_omega
 ·obtain⟨_,_,rfl,_⟩:=h
  rfl
 obtain⟨a,c,rfl,ha,q⟩:=h;refine⟨_,(Aj (Cg PassesOwn.never rfl (Ld rfl T.n_enumerate (Aa (pv 0) Ah)) (Ig (n:=2) rfl (Bn (Ax (i:=2) sc.nd rfl (Or.inl rfl)) (Bn (Ax (i:=3) sc.nd rfl (Or.inl rfl)) Ds)))
    Mx)
   (An (Az (Xp Pl Ao)))),?_⟩
 refine (vE rfl ⟨a,rfl,⟨_,SqL.of ha⟩,Pz (K:=K) (a:=a) (xs:=[]) (fun i σ H2=>σ=[some (.ref a),some (.int c),none,none]/\Same H H2) ⟨rfl,fun _ _ z=>z⟩ (fun i σ H2 _ hh=>SqL.of (hh.2 _ _ ha)) ?_ ?_⟩)
 ·rintro i x σ H2 t hi
  simp at hi
 ·rintro σ H2 ⟨rfl,s2⟩
  exact (vE rfl (q _ s2))
theorem Vh:Aw ["spans", "cents", "bounds", "span"] ["spans", "cents"] (Ar Iq):=by injections
theorem Ts {f:Addr} {fd:zCx} (F:Fun K "bounds_of" "bounds_of" Iq f fd) (T:Txt K mg):FnOk P w K mg base Da 1 f fd ["spans", "cents"] Zu:=by
 have sc:=Vh;bv_omega
 ·obtain⟨_,_,rfl,_⟩:=h
  rfl
 obtain⟨a,c,rfl,ha,c0,q⟩:=h;refine⟨_,(Aj (Ba (i:=2) sc.nd rfl (Or.inl rfl) (Bp (Aa Ao (Aa (pv 1) Ah))))
   (Aj (Cg PassesOwn.never rfl (Bg (pv 0)) (Ax (i:=3) sc.nd rfl (Or.inl rfl))
    Mx)
   (An (Az (Yu (pv 2) rfl rfl T.n_sorted rfl T.n_set))))),?_⟩
 refine (vE rfl ⟨Bk (by show 2<=1000; decide),fun b nb=>?_⟩);have s1:=Ai nb (.lst [V.int 0,.int c]);have h1:upd H b (.lst [V.int 0,.int c]) b=some (.lst [V.int 0,.int c]):=Af;generalize upd H b (.lst [V.int 0,.int c])=H1 at s1 h1;refine Dt [some (.ref a),some (.int c),some (.ref b),none] rfl ?_;refine (vE rfl ⟨a,rfl,⟨_,SqL.of (s1 _ _ ha)⟩,Cf (K:=K) (a:=a) (xs:=[]) (fun i σ H2=>σ=[some (.ref a),some (.int c),some (.ref b),none]/\Same H1 H2) ⟨rfl,fun _ _ z=>z⟩ (fun i σ H2 _ hh=>SqL.of (hh.2 _ _ (s1 _ _ ha))) ?_ ?_⟩)
 ·rintro i x σ H2 hi
  simp at hi
 ·rintro σ H2 ⟨rfl,s2⟩
  refine (vE rfl ⟨b,[0,c],rfl,SqL.of (s2 _ _ h1),(by show 2<64; decide),fun l ms nl up mem=>?_⟩);obtain rfl:=ET c0 up mem;exact q l _ (s1.trans (s2.trans (Ai nl _))) (s1.free (s2.free nl)) Af
theorem Px:Aw ["self", "counts", "cents", "spans", "bounds", "told", "lo", "hi", "k"] ["self", "counts", "cents"] (Ar Gj):=by injections
theorem Pf {f:Addr} {fd:zCx} (F:Fun K "parts" "Cover.parts" Gj f fd) (T:Txt K mg) (Mspans:Il P w K mg base 1 Ac "spans" ["self", "counts", "cents"] (Lq (A8.mk Ab Ad Ae Ag Al Am Ac Ak) Ac)) (Cbounds_of:Cr P w K mg base 1 "bounds_of" ["spans", "cents"] Zu) (Cfirst_without:Cr P w K mg base 1 "first_without" ["spans", "cent"] X2):FnOk P w K mg base Da 2 f fd ["self", "counts", "cents"] (Pp (A8.mk Ab Ad Ae Ag Al Am Ac Ak) Ac):=by
 have sc:=Px;bv_omega
 ·obtain⟨_,_,_,rfl,_⟩:=h
  rfl
 obtain⟨x,n,c,rfl,cw,c0,q⟩:=h;obtain⟨dx,fs,cv,cl,e,a1,a2,a3,a4,a5,a6,a7,a8⟩:=id cw;refine⟨_,(Aj (Ba (i:=3) sc.nd rfl (Or.inl rfl) (Dp Mspans (hr.mono (by decide)) (pv 0) (Aa (pv 1) (Aa (pv 2) Ah))))
   (Aj (Ba (i:=4) sc.nd rfl (Or.inl rfl) (Av Cbounds_of (hr.mono (by decide)) rfl (Aa (pv 3) (Aa (pv 2) Ah))))
   (Aj (Ba (i:=5) sc.nd rfl (Or.inl rfl) (Bp Ah))
   (Aj (Cg PassesOwn.never rfl (EZ rfl T.n_zip (Aa (pv 4) (Aa (Pd C0 (pv 4) (Oq Ao) E6) Ah))) (Ig (n:=2) rfl (Bn (Ax (i:=6) sc.nd rfl (Or.inl rfl)) (Bn (Ax (i:=7) sc.nd rfl (Or.inl rfl)) Ds)))
    (Aj (Ba (i:=8) sc.nd rfl (Or.inl rfl) (Av Cfirst_without (hr.mono (by decide)) rfl (Aa (pv 3) (Aa (pv 6) Ah))))
   (Aj (Cd (PW.pt (Uz (R1 (pv 5)) (Om (Bd Gg (Be Br (Be Bx (pv 5) (Xp Pl Ao) (fun _ _=>rfl)) Ao (fun _ _=>rfl)) (pv 8) (Bf _)))))
    (An (Ba (i:=6) sc.nd rfl (Or.inl rfl) (Be Br (EI PySem.F.plainAttrs_list PySem.F.slot_list_pop PySem.F.type_list_pop DS (pv 5)) Ao (fun _ _=>rfl))))
    Bm)
   (An (Ck (Fu PySem.F.plainAttrs_list PySem.F.slot_list_append PySem.F.type_list_append Ek (pv 5) (Aa (Cp (Aa (pv 6) (Aa (pv 7) (Aa (pv 8) Ah)))) Ah)))))))
   (An (Az (pv 5))))))),?_⟩
 refine (vE rfl ⟨x.p,dx,fs,rfl,e,a5.2.1,vE rfl (vE rfl ⟨x,n,.int c,rfl,cw,fun sp H1 s1 nsp hsp=>?_⟩)⟩);refine Dt [some (.ref x.p),some n,some (.int c),some (.ref sp),none,none,none,none,none] rfl ?_;refine (vE rfl (vE rfl ⟨sp,c,rfl,hsp,c0,fun b H2 s2 nb hb=>?_⟩));refine Dt [some (.ref x.p),some n,some (.int c),some (.ref sp),some (.ref b),none,none,none,none] rfl ?_;refine⟨zAk _,fun td ntd=>?_⟩;refine Dt [some (.ref x.p),some n,some (.int c),some (.ref sp),some (.ref b),some (.ref td),none,none,none] rfl ?_;have s3:=Ai ntd (.lst []);have h3:upd H2 td (.lst []) td=some (.lst []):=Af;generalize upd H2 td (.lst [])=H3 at s3 h3;have three:3<=sizeLine:=by rw[zCv]; decide
 refine (vE rfl (vE rfl (vE rfl ⟨b,_,rfl,SqL.of (s3 _ _ hb),fun m nm'=>?_⟩)));have ec:G5 [V.int 0,V.int c] (some 1) none=[V.int c]:=rfl;rw[ec];have s4:=Ai nm' (.lst [V.int c]);have hm4:upd H3 m (.lst [V.int c]) m=some (.lst [V.int c]):=Af;have ht4:=s4 _ _ h3;have S4:=s3.trans s4;have ntm:td≠m:=Ap h3 nm';generalize upd H3 m (.lst [V.int c])=H4 at s4 hm4 ht4 S4;have hb4:=S4 _ _ hb;have hsp4:=S4 _ _ (s2 _ _ hsp);refine⟨b,m,rfl,⟨_,SqL.of hb4⟩,⟨_,SqL.of hm4⟩,AM (K:=K) (K':=K) (a:=b) (b:=m) (xs:=[V.int 0,V.int c]) (ys:=[V.int c])
  (fun i σ H5=>(∃ o6 o7 o8,σ=[some (.ref x.p),some n,some (.int c),some (.ref sp),some (.ref b),some (.ref td),o6,o7,o8])/\(if i=0 then H5 td=some (.lst []) else ∃ t,H5 td=some (.lst [.ref t])/\H5 t=some (.tup [.int 0,.int c,.int (-1)]))/\H5 m=some (.lst [V.int c])/\Same H2 H5)
  ⟨⟨none,none,none,rfl⟩,by rw[if_pos rfl]; exact ht4,hm4,S4⟩ (fun i σ H5 _ ⟨_,_,e5,s5⟩=>⟨SqL.of (s5 _ _ hb),SqL.of e5⟩) ?_ ?_⟩
 ·rintro i y z σ H5 t hy hz ⟨⟨o6,o7,o8,rfl⟩,h5,hm5,s5⟩ nt
  obtain rfl:i=0:=by
   have:=(zAj.mp hz).1;have:i<1:=this
   lia
  rw[if_pos rfl] at h5;cases hy;cases hz;have u1:=Ai nt (.tup [V.int 0,.int c]);have s6:=s5.trans u1;have h6:=u1 _ _ h5;have hm6:=u1 _ _ hm5;generalize upd H5 t (.tup [V.int 0,.int c])=H6 at u1 s6 h6 hm6;refine HE [some (.ref x.p),some n,some (.int c),some (.ref sp),some (.ref b),some (.ref td),some (.int 0),some (.int c),o8] rfl ?_;refine (vE rfl (vE rfl ⟨sp,0,rfl,s6 _ _ (s2 _ _ hsp),fun H7 u2=>?_⟩));refine Dt [some (.ref x.p),some n,some (.int c),some (.ref sp),some (.ref b),some (.ref td),some (.int 0),some (.int c),some (.int (-1))] rfl ?_;have h7:=u2 _ _ h6;have hm7:=u2 _ _ hm6;have s7:=s6.trans u2;refine (vE rfl ⟨_,.inl ⟨_,SqL.of h7,rfl⟩,Dk (Dk ?_)⟩);refine (vE rfl ⟨.inl ⟨rfl,_,SqL.of h7⟩,vE rfl (vE rfl (vE rfl ⟨three,fun v nv=>?_⟩))⟩);have u3:=Ai nv (.tup [V.int 0,.int c,.int (-1)]);have h8:=u3 _ _ h7;have nvt:v≠td:=(Ap h7 nv).symm;refine⟨td,_,_,rfl,rfl,h8,by rw[zCv]; decide,⟨_,_,_,rfl⟩,?_,?_,?_⟩
  ·rw[if_neg (by decide)]
   exact⟨v,Af,by rw[Aq nvt]; exact Af⟩
  ·rw[Aq ntm.symm]
   exact u3 _ _ hm7
  ·intro b' o' y'
   rw[Aq (Ap y' ntd)];exact u3 _ _ (s7 _ _ y')
 ·rintro σ H5 ⟨⟨o6,o7,o8,rfl⟩,h5,hm5,s5⟩
  have e1:min [V.int 0,V.int c].length [V.int c].length=1:=rfl;rw[e1,if_neg (by decide)] at h5;obtain⟨t,h51,h52⟩:=h5;exact (vE rfl (q td t H5 (s1.trans (s2.trans s5)) (s1.free (s2.free ntd)) h51 h52))
end
def Prs (H:Hp):List V->List CR.Rn->Prop
 | [],[]=>True
 | x::xs,p::ps=>(∃ t,x = .ref t/\H t=some (.tup [.int p.1,.int p.2]))/\Prs H xs ps
 | _,_=>False
def LP (H:Hp) (a:Addr) (ps:List CR.Rn):Prop:=∃ xs,H a=some (.lst xs)/\Prs H xs ps
theorem Prs.len {H:Hp}:∀ {xs:List V} {ps:List CR.Rn},Prs H xs ps->xs.length=ps.length
 | [],[],_=>rfl
 | [],_::_,h=>h.elim
 | _::_,[],h=>h.elim
 | x::xs,p::ps,h=>by rw[zAl,zAl,Prs.len h.2]
theorem Prs.mono {H H':Hp} (s:IS H H'):∀ {xs:List V} {ps:List CR.Rn},Prs H xs ps->Prs H' xs ps
 | [],[],_=>trivial
 | [],_::_,h=>h.elim
 | _::_,[],h=>h.elim
 | x::xs,p::ps,⟨⟨t,e,h⟩,r⟩=>⟨⟨t,e,s _ _ h⟩,Prs.mono s r⟩
theorem Prs.get {H:Hp}:∀ {xs:List V} {ps:List CR.Rn} {i:Nat} {x:V},Prs H xs ps->xs[i]?=some x->∃ t p,ps[i]?=some p/\x = .ref t/\H t=some (.tup [.int p.1,.int p.2])
 | [],[],_,_,_,e=>by simp at e
 | [],_::_,_,_,h,_=>h.elim
 | _::_,[],_,_,h,_=>h.elim
 | x::xs,p::ps,0,y,⟨⟨t,e,h⟩,r⟩,q=>by
  simp at q;subst q;exact (x2 t p (c3 rfl e h))
 | x::xs,p::ps,i+1,y,⟨_,r⟩,q=>by
  obtain⟨t,p',h1,h2⟩:=Prs.get (i:=i) r (by simpa using q);exact⟨t,p',by simpa using h1,h2⟩
theorem Prs.app {H:Hp}:∀ {xs:List V} {ps:List CR.Rn} {ys:List V} {qs:List CR.Rn},Prs H xs ps->Prs H ys qs->Prs H (xs++ys) (ps++qs)
 | [],[],_,_,_,h=>h
 | [],_::_,_,_,h,_=>h.elim
 | _::_,[],_,_,h,_=>h.elim
 | x::xs,p::ps,_,_,⟨h,r⟩,q=>⟨h,Prs.app r q⟩
theorem Prs.one {H:Hp} {t:Addr} {a b:Int} (h:H t=some (.tup [.int a,.int b])):Prs H [.ref t] [(a,b)]:=⟨⟨t,rfl,h⟩,trivial⟩
theorem Prs.snoc {H:Hp} {xs:List V} {ps:List CR.Rn} {t:Addr} {a b:Int} (r:Prs H xs ps) (h:H t=some (.tup [.int a,.int b])):Prs H (xs++[.ref t]) (ps++[(a,b)]):=r.app (Prs.one h)
theorem LP.same {H H':Hp} {a:Addr} {ps:List CR.Rn} (s:Same H H') (h:LP H a ps):LP H' a ps:=by
 obtain⟨xs,h1,r⟩:=h;exact⟨xs,s _ _ h1,r.mono (Es s)⟩
def C5:Sp:=fun vs H Q _=>∃ a ps,∃ lo hi:Int,vs=[.ref a,.int lo,.int hi]/\LP H a ps/\ps.length<=1000/\∀ r H',Same H H'->H r=none->LP H' r (CR.cutW ps lo hi)->Q (.ref r) H'
def HB:Sp:=fun vs H Q _=>∃ a ps,∃ n:Int,vs=[.ref a,.int n]/\LP H a ps/\ps.length<=1000/\∀ r H',Same H H'->H r=none->LP H' r (CR.lowW ps n)->Q (.ref r) H'
def DZ:Sp:=fun vs H Q _=>∃ a ps,vs=[.ref a,.non]/\LP H a ps/\∀ r H',Same H H'->H r=none->LP H' r ps->Q (.ref r) H'
def Pn:Sp:=fun vs H Q E=>HB vs H Q E\/DZ vs H Q E
def A7:Sp:=fun vs H Q _=>∃ t b qs,∃ p:CR.Rn,vs=[.ref t,.ref b]/\H t=some (.tup [.int p.1,.int p.2])/\LP H b qs/\qs.length<=1000/\∀ r H',Same H H'->H r=none->LP H' r (CR.leftW p.2 p.1 qs)->Q (.ref r) H'
def Y7:Sp:=fun vs H Q _=>∃ a b ps qs,vs=[.ref a,.ref b]/\LP H a ps/\LP H b qs/\ps.length<=1000/\qs.length<=1000/\∀ r H',Same H H'->H r=none->LP H' r (CR.outW ps qs)->Q (.ref r) H'
section
variable {P:Program} {w:World} {K:zAa} {mg:Str->Option Value} {base:Heap}
theorem Ru:Aw ["runs", "lo", "hi", "cut"] ["runs", "lo", "hi"] (Ar Hk):=by injections
theorem Rf {f:Addr} {fd:zCx} (F:Fun K "cut_within" "cut_within" Hk f fd) (T:Txt K mg):FnOk P w K mg base Da 1 f fd ["runs", "lo", "hi"] C5:=by
 have sc:=Ru;bv_omega
 ·obtain⟨_,_,_,_,rfl,_⟩:=h
  rfl
 obtain⟨a,ps,lo,hi,rfl,⟨xs,ha,pr⟩,hl,q⟩:=h;refine⟨_,(Aj (Cs (NC:=["run", "lo", "hi"]) (own:=["run"]) (cs:=["lo", "hi"]) (ix:=[1,2]) (j:=3) sc.nd rfl rfl rfl (CompScope.of rfl) rfl ⟨⟨rfl,.inl rfl,rfl⟩,⟨⟨rfl,.inl rfl,rfl⟩,trivial⟩⟩ (Bg (pv 0)) (fun _ _ _=>(Ax (i:=0) (show (["run", "lo", "hi"]:List Str).Nodup from by ac_nf) rfl (Or.inl rfl))) (fun _ _ _=>By) (fun _ _ _=>(Cp (Aa (Bb (Lv rfl) rfl T.n_max (show zCw _=some (.builtin "max") from rfl) (Aa (Be (Db (K:=K) rfl) (pv 0) Ao (fun _ _=>rfl)) (Aa (pv 1) Ah))) (Aa (Bb (Je rfl) rfl T.n_min (show zCw _=some (.builtin "min") from rfl) (Aa (Be (Db (K:=K) rfl) (pv 0) Ao (fun _ _=>rfl)) (Aa (pv 2) Ah))) Ah)))))
   (An (Az (Cj (NC:=["run"]) (own:=["run"]) (cs:=[]) (ix:=[]) rfl (CompScope.of rfl) rfl trivial (Bg (pv 3)) (fun _ _ _=>(Ax (i:=0) (show (["run"]:List Str).Nodup from by ac_nf) rfl (Or.inl rfl))) (fun _ _ _=>(Ef (Bd Hx (Be (Db (K:=K) rfl) (pv 0) Ao (fun _ _=>rfl)) (Be (Db (K:=K) rfl) (pv 0) Ao (fun _ _=>rfl)) (Bf _)))) (fun _ _ _=>(pv 0)))))),?_⟩
 have lx:=pr.len;refine (vE rfl ⟨a,rfl,⟨_,SqL.of ha⟩,fun c hc=>?_⟩);refine Bo (K:=K) (a:=a) (xs:=xs) (fun i ys H2=>Prs H2 ys ((ps.take i).map (CR.cutM lo hi))/\H2 c=some (.lst ys)/\Same H H2) ⟨trivial,Af,Ai hc _⟩
  (fun i ys H2 _ ⟨e,h1,s1⟩=>⟨h1,by rw[e.len,zAb,zAK]; lia,SqL.of (s1 _ _ ha)⟩) (by rw[lx,zCv]; lia) (fun i x ys H2 hi' ⟨e,h1,s1⟩=>?_) (fun ys H2 ⟨e,h1,s1⟩=>?_)
 ·obtain⟨t,p,hp,rfl,ht⟩:=pr.get hi'
  have ht2:=s1 _ _ ht;refine (vE rfl (vI rfl rfl (SqT.of ht2) rfl (vE rfl (x2 _ _ ⟨rfl,vE rfl (vI rfl rfl (SqT.of ht2) rfl (vE rfl (x2 _ _ (c3 rfl (by show 2<=sizeLine; rw[zCv]; decide) (fun u hu=>?_)))))⟩))));have s2:=Ai hu (.tup [.int (CR.cutM lo hi p).1,.int (CR.cutM lo hi p).2]);refine⟨s2 _ _ h1,rfl,?_,Af,fun x o z=>?_⟩
  ·rw[Gv hp,zAz]
   exact ((e.mono (Es s2)).snoc (a:=(CR.cutM lo hi p).1) (b:=(CR.cutM lo hi p).2) Af).mono (Jh (s2 _ _ h1) _)
  ·rw[Aq (Ap z hc)]
   exact s2 _ _ (s1 x o z)
 have et:ps.take xs.length=ps:=by rw[lx]; exact zAO
 rw[et] at e;refine (vE rfl ⟨c,rfl,⟨_,SqL.of h1⟩,fun r hr'=>?_⟩);have ly:ys.length=ps.length:=by rw[e.len,zAb]
 refine Bo (K:=K) (a:=c) (xs:=ys) (fun i zs H3=>Prs H3 zs (((ps.map (CR.cutM lo hi)).take i).filter fun p=>decide (p.1<p.2))/\H3 r=some (.lst zs)/\Same H2 H3) ⟨trivial,Af,Ai hr' _⟩
  (fun i zs H3 _ ⟨e',h1',s1'⟩=>⟨h1',?_,SqL.of (s1' _ _ h1)⟩) (by rw[ly,zCv]; lia) (fun i x zs H3 hi' ⟨e',h1',s1'⟩=>?_) (fun zs H3 ⟨e',h1',s1'⟩=>?_)
 ·rw[e'.len]
  refine zAA (zAG _ _) ?_;rw[zAK]
  lia
 ·obtain⟨t,p,hp,rfl,ht⟩:=e.get hi'
  have ht3:=s1' _ _ ht;refine (vE rfl (vI rfl rfl (SqT.of ht3) rfl (vE rfl (vI rfl rfl (SqT.of ht3) rfl (vF rfl rfl (vE rfl ?_))))));rw[Gv hp,zBv];refine G8 (fun c'=>?_) (fun c'=>?_)
  ·have c2:p.1<p.2:=of_decide_eq_true c'
   refine (vE rfl ⟨h1',rfl,?_,Af,fun x o z=>?_⟩)
   ·rw[List.filter_cons,if_pos (decide_eq_true c2),zBe]
    exact (e'.snoc (a:=p.1) (b:=p.2) ht3).mono (Jh h1' _)
   ·rw[Aq (Ap z hr')]
    exact s1' x o z
  ·have c2:¬ p.1<p.2:=of_decide_eq_false (zBz.mpr c')
   rw[List.filter_cons,if_neg (by rw[decide_eq_false c2]; exact zAr),zBe,zAJ];exact⟨rfl,e',h1',s1'⟩
 ·have et':(ps.map (CR.cutM lo hi)).take ys.length=ps.map (CR.cutM lo hi):=by rw[ly,<- zAb (f:=CR.cutM lo hi)]; exact zAO
  rw[et'] at e';exact q r H3 (s1.trans s1') (s1.free hr') ⟨zs,h1',e'⟩
theorem Um:Aw ["runs", "n", "kept", "left", "lo", "hi"] ["runs", "n"] (Ar Iv):=by injections
theorem Uq {f:Addr} {fd:zCx} (F:Fun K "lowest_of" "lowest_of" Iv f fd) (T:Txt K mg):FnOk P w K mg base Da 1 f fd ["runs", "n"] Pn:=by
 have sc:=Um;bv_omega
 ·rcases h with ⟨_,_,_,rfl,_⟩ | ⟨_,_,rfl,_⟩ <;> rfl
 refine⟨_,(Aj (Cd (Bd Qq (pv 1) Gb (Bf _))
    (An (Az (El Ei rfl T.n_list (show zCw _=some (.type "list") from rfl) (Aa (pv 0) Ah))))
    Bm)
   (Aj (Ba (i:=2) sc.nd rfl (Or.inl rfl) (Bp Ah))
   (Aj (Ba (i:=3) sc.nd rfl (Or.inl rfl) (pv 1))
   (Aj (Cg PassesOwn.never rfl (Bg (pv 0)) (Ig (n:=2) rfl (Bn (Ax (i:=4) sc.nd rfl (Or.inl rfl)) (Bn (Ax (i:=5) sc.nd rfl (Or.inl rfl)) Ds)))
    (Aj (Cd (Bd Ie (pv 3) Ao (Bf _))
    (An (Ck (Fu PySem.F.plainAttrs_list PySem.F.slot_list_append PySem.F.type_list_append Ek (pv 2) (Aa (Cp (Aa (pv 4) (Aa (Bb (Je rfl) rfl T.n_min (show zCw _=some (.builtin "min") from rfl) (Aa (pv 5) (Aa (Bc Bw (pv 4) (pv 3)) Ah))) Ah))) Ah))))
    Bm)
   (An (Ba (i:=3) sc.nd rfl (Or.inl rfl) (Bc Ic (pv 3) (Bc Ic (pv 5) (pv 4)))))))
   (An (Az (pv 2))))))),?_⟩
 rcases h with ⟨a,ps,n,rfl,⟨xs,ha,pr⟩,hl,q⟩ | ⟨a,ps,rfl,⟨xs,ha,pr⟩,q⟩
 ·have lx:=pr.len
  refine (vE rfl ⟨rfl,vE rfl (dF (fun z=>nomatch z) ?_)⟩);refine⟨zAk _,fun r hr'=>?_⟩;have s1:Same H (upd H r (.lst [])):=Ai hr' _;refine (vE rfl ?_);refine⟨_,rfl,a,rfl,⟨_,SqL.of (s1 _ _ ha)⟩,Cf (K:=K) (a:=a) (xs:=xs)
   (fun i σ H2=>(∃ o1 o2 ys,∃ left:Int,σ=[some (.ref a),some (.int n),some (.ref r),some (.int left),o1,o2]/\H2 r=some (.lst ys)/\ys.length<=i/\∃ ks,Prs H2 ys ks/\CR.lowW ps n=ks++CR.lowW (ps.drop i) left)/\Same H H2)
   ⟨⟨none,none,[],n,rfl,Af,zAf _,[],trivial,rfl⟩,s1⟩ (fun i σ H2 _ ⟨_,e⟩=>SqL.of (e _ _ ha)) ?_ ?_⟩
  ·rintro i x σ H2 hi ⟨⟨o1,o2,ys,left,rfl,h1,ly,ks,pk,ek⟩,s2⟩
   obtain⟨t,p,hp,rfl,ht⟩:=pr.get hi;have ht2:=s2 _ _ ht;have hix:i<ps.length:=(zAj.mp hp).1;have ed:ps.drop i=p::ps.drop (i+1):=by
    rw[zCa hix]
    congr 1
    exact (zAj.mp hp).2
   rw[ed,CR.lowW_cons] at ek;refine (x2 t _ (c4 rfl (SqT.of ht2) rfl (vC rfl (vC rfl (⟨rfl,?_⟩)))));refine (vE rfl (vF rfl rfl (vE rfl (G8 (fun c=>?_) (fun c=>?_)))))
   ·have c':0<left:=of_decide_eq_true c
    rw[if_pos c'] at ek;refine (vE rfl ⟨.inl ⟨rfl,_,SqL.of h1⟩,vE rfl (vE rfl (vE rfl (vE rfl (vF rfl rfl (x2 _ _ (c3 rfl (by show 2<=sizeLine; rw[zCv]; decide) (fun u hu=>?_)))))))⟩);have s3:=Ai hu (.tup [.int p.1,.int (if p.1+left<p.2 then p.1+left else p.2)]);refine (x3 r _ _ (c5 rfl rfl (s3 _ _ h1) (by rw[zCv]; lia) ?_));refine (vE rfl (vE rfl (vE rfl (vF rfl rfl (vF rfl rfl ⟨(x4 _ _ _ _ ⟨rfl,Af,by rw[zAi]; exact Nat.add_le_add ly (zAf 1),_,((pk.mono (Es s3)).snoc Af).mono (Jh (s3 _ _ h1) _),?_⟩),fun x o z=>?_⟩)))))
    ·rw[ek,zBH]
    ·rw[Aq (Ap z hr')]
     exact s3 _ _ (s2 x o z)
   ·have c':¬ 0<left:=of_decide_eq_false (zBz.mpr c)
    rw[if_neg c'] at ek;refine (vE rfl (vE rfl (vE rfl (vF rfl rfl (vF rfl rfl ⟨(x4 _ _ _ _ ⟨rfl,h1,by lia,_,pk,?_⟩),s2⟩)))));rw[ek];rfl
  ·rintro σ H2 ⟨⟨o1,o2,ys,left,rfl,h1,ly,ks,pk,ek⟩,s2⟩
   refine (vE rfl (q r H2 s2 hr' ⟨ys,h1,?_⟩));rw[lx,List.drop_length] at ek;rw[ek,CR.lowW_nil,zAJ];exact pk
 ·refine (vE rfl ⟨rfl,vE rfl (dT rfl ?_)⟩)
  refine (vE rfl (x2 a _ (c3 rfl (.inl (SqL.of ha)) (fun r hr'=>?_))));have s1:=Ai hr' (.lst xs);exact q r _ s1 hr' ⟨xs,Af,pr.mono (Es s1)⟩
theorem Po:Aw ["run", "others", "left", "begin", "lo", "hi", "end"] ["run", "others"] (Ar Go):=by injections
theorem Ph {f:Addr} {fd:zCx} (F:Fun K "left_of_run" "left_of_run" Go f fd) (T:Txt K mg):FnOk P w K mg base Da 1 f fd ["run", "others"] A7:=by
 have sc:=Po;bv_omega
 ·obtain⟨_,_,_,_,rfl,_⟩:=h
  rfl
 obtain⟨t0,b,qs,p,rfl,ht0,⟨xs,hb,pr⟩,hl,q⟩:=h;refine⟨_,(Aj (Ba (i:=2) sc.nd rfl (Or.inl rfl) (Bp Ah))
   (Aj (Ba (i:=3) sc.nd rfl (Or.inl rfl) (Be Br (pv 0) Ao (fun _ _=>rfl)))
   (Aj (Cg PassesOwn.never rfl (Bg (pv 1)) (Ig (n:=2) rfl (Bn (Ax (i:=4) sc.nd rfl (Or.inl rfl)) (Bn (Ax (i:=5) sc.nd rfl (Or.inl rfl)) Ds)))
    (Aj (Ba (i:=6) sc.nd rfl (Or.inl rfl) (Bb (Je rfl) rfl T.n_min (show zCw _=some (.builtin "min") from rfl) (Aa (pv 4) (Aa (Be Br (pv 0) Ao (fun _ _=>rfl)) Ah))))
   (Aj (Cd (Bd Hx (pv 3) (pv 6) (Bf _))
    (An (Ck (Fu PySem.F.plainAttrs_list PySem.F.slot_list_append PySem.F.type_list_append Ek (pv 2) (Aa (Cp (Aa (pv 3) (Aa (pv 6) Ah))) Ah))))
    Bm)
   (An (Ba (i:=3) sc.nd rfl (Or.inl rfl) (Bb (Lv rfl) rfl T.n_max (show zCw _=some (.builtin "max") from rfl) (Aa (pv 3) (Aa (pv 5) Ah))))))))
   (Aj (Cd (Bd Hx (pv 3) (Be Br (pv 0) Ao (fun _ _=>rfl)) (Bf _))
    (An (Ck (Fu PySem.F.plainAttrs_list PySem.F.slot_list_append PySem.F.type_list_append Ek (pv 2) (Aa (Cp (Aa (pv 3) (Aa (Be Br (pv 0) Ao (fun _ _=>rfl)) Ah))) Ah))))
    Bm)
   (An (Az (pv 2))))))),?_⟩
 have lx:=pr.len;refine⟨zAk _,fun r hr'=>?_⟩;have s1:Same H (upd H r (.lst [])):=Ai hr' _;refine (vE rfl (vI rfl rfl (SqT.of (s1 _ _ ht0)) rfl ?_));refine⟨_,rfl,b,rfl,⟨_,SqL.of (s1 _ _ hb)⟩,Cf (K:=K) (a:=b) (xs:=xs)
  (fun i σ H2=>(∃ o1 o2 o3 ys,∃ begin:Int,σ=[some (.ref t0),some (.ref b),some (.ref r),some (.int begin),o1,o2,o3]/\H2 r=some (.lst ys)/\ys.length<=i/\∃ ks,Prs H2 ys ks/\CR.leftW p.2 p.1 qs=ks++CR.leftW p.2 begin (qs.drop i))/\Same H H2)
  ⟨⟨none,none,none,[],p.1,rfl,Af,zAf _,[],trivial,rfl⟩,s1⟩ (fun i σ H2 _ ⟨_,e⟩=>SqL.of (e _ _ hb)) ?_ ?_⟩
 ·rintro i x σ H2 hi ⟨⟨o1,o2,o3,ys,begin,rfl,h1,ly,ks,pk,ek⟩,s2⟩
  obtain⟨t,p',hp,rfl,ht⟩:=pr.get hi;have ht2:=s2 _ _ ht;have hix:i<qs.length:=(zAj.mp hp).1;have ed:qs.drop i=p'::qs.drop (i+1):=by
   rw[zCa hix]
   congr 1
   exact (zAj.mp hp).2
  rw[ed,CR.leftW_cons] at ek;refine (x2 t _ (c4 rfl (SqT.of ht2) rfl (vC rfl (vC rfl (⟨rfl,?_⟩)))));refine (vE rfl (vE rfl (vI rfl rfl (SqT.of (s2 _ _ ht0)) rfl (x2 _ _ ⟨rfl,?_⟩))));refine (vE rfl (vE rfl (vF rfl rfl (vE rfl (G8 (fun c=>?_) (fun c=>?_))))))
  ·have c':begin<CR.minI p'.1 p.2:=of_decide_eq_true c
   rw[if_pos c'] at ek;refine (vE rfl ⟨.inl ⟨rfl,_,SqL.of h1⟩,vE rfl (vE rfl ⟨by show 2<=sizeLine; rw[zCv]; decide,fun u hu=>?_⟩)⟩);have s3:=Ai hu (.tup [.int begin,.int (CR.minI p'.1 p.2)]);refine (x3 r _ _ (c5 rfl rfl (s3 _ _ h1) (by rw[zCv]; lia) ?_));refine (vE rfl (vE rfl (x2 _ _ (c3 rfl (x5 _ _ _ _ _ ⟨rfl,Af,by rw[zAi]; exact Nat.add_le_add ly (zAf 1),_,((pk.mono (Es s3)).snoc Af).mono (Jh (s3 _ _ h1) _),?_⟩) (fun x o z=>?_)))))
   ·rw[ek,zBH]
    rfl
   ·rw[Aq (Ap z hr')]
    exact s3 _ _ (s2 x o z)
  ·have c':¬ begin<CR.minI p'.1 p.2:=of_decide_eq_false (zBz.mpr c)
   rw[if_neg c'] at ek;refine (vE rfl (vE rfl (x2 _ _ (c3 rfl (x5 _ _ _ _ _ ⟨rfl,h1,by lia,_,pk,?_⟩) s2))));rw[ek];rfl
 ·rintro σ H2 ⟨⟨o1,o2,o3,ys,begin,rfl,h1,ly,ks,pk,ek⟩,s2⟩
  rw[lx,List.drop_length,CR.leftW_nil] at ek;refine (vE rfl (vE rfl (vI rfl rfl (SqT.of (s2 _ _ ht0)) rfl (vF rfl rfl (vE rfl (G8 (fun c=>?_) (fun c=>?_)))))))
  ·have c':begin<p.2:=of_decide_eq_true c
   rw[if_pos c'] at ek;refine (vE rfl ⟨.inl ⟨rfl,_,SqL.of h1⟩,vE rfl (vE rfl (vI rfl rfl (SqT.of (s2 _ _ ht0)) rfl ⟨by show 2<=sizeLine; rw[zCv]; decide,fun u hu=>?_⟩))⟩);have s3:=Ai hu (.tup [.int begin,.int p.2]);refine (x3 r _ _ (c5 rfl rfl (s3 _ _ h1) (by rw[zCv]; lia) ?_));refine (vE rfl (q r _ (fun x o z=>?_) hr' ⟨_,Af,?_⟩))
   ·rw[Aq (Ap z hr')]
    exact s3 _ _ (s2 x o z)
   ·rw[ek]
    exact ((pk.mono (Es s3)).snoc Af).mono (Jh (s3 _ _ h1) _)
  ·have c':¬ begin<p.2:=of_decide_eq_false (zBz.mpr c)
   rw[if_neg c',zAJ] at ek;refine (vE rfl (q r _ s2 hr' ⟨_,h1,?_⟩));rw[ek];exact pk
theorem Zw:Aw ["runs", "others", "left", "run"] ["runs", "others"] (Ar Ma):=by injections
theorem Za {f:Addr} {fd:zCx} (F:Fun K "cut_out" "cut_out" Ma f fd) (T:Txt K mg) (Cleft_of_run:Cr P w K mg base 1 "left_of_run" ["run", "others"] A7):FnOk P w K mg base Da 2 f fd ["runs", "others"] Y7:=by
 have sc:=Zw;bv_omega
 ·obtain⟨_,_,_,_,rfl,_⟩:=h
  rfl
 obtain⟨a,b,ps,qs,rfl,⟨xs,ha,pr⟩,lq,hl,hl',q⟩:=h;refine⟨_,(Aj (Ba (i:=2) sc.nd rfl (Or.inl rfl) (Bp Ah))
   (Aj (Cg PassesOwn.never rfl (Bg (pv 0)) (Ax (i:=3) sc.nd rfl (Or.inl rfl))
    (An (Ck (Fu PySem.F.plainAttrs_list PySem.F.slot_list_extend PySem.F.type_list_extend Dz (pv 2) (Aa (Av Cleft_of_run (hr.mono (by decide)) rfl (Aa (pv 3) (Aa (pv 1) Ah))) Ah)))))
   (An (Az (pv 2))))),?_⟩
 have lx:=pr.len;refine⟨zAk _,fun r hr'=>?_⟩;have s1:Same H (upd H r (.lst [])):=Ai hr' _;refine⟨_,rfl,a,rfl,⟨_,SqL.of (s1 _ _ ha)⟩,Cf (K:=K) (a:=a) (xs:=xs)
  (fun i σ H2=>(∃ o1 ys,σ=[some (.ref a),some (.ref b),some (.ref r),o1]/\H2 r=some (.lst ys)/\Prs H2 ys (CR.outW (ps.take i) qs))/\Same H H2)
  ⟨⟨none,[],rfl,Af,trivial⟩,s1⟩ (fun i σ H2 _ ⟨_,e⟩=>SqL.of (e _ _ ha)) ?_ ?_⟩
 ·rintro i x σ H2 hi ⟨⟨o1,ys,rfl,h1,pk⟩,s2⟩
  obtain⟨t,p,hp,rfl,ht⟩:=pr.get hi;have hix:i<ps.length:=(zAj.mp hp).1;refine (vE rfl ⟨.inl ⟨rfl,_,SqL.of h1⟩,vE rfl (vE rfl (x4 t b qs p (c5 rfl (s2 _ _ ht) (lq.same s2) hl' (fun u H3 s3 hu ⟨zs,hz,pz⟩=>?_))))⟩);have e1:(CR.outW (ps.take i) qs).length<=1000*1001:=zAA (CR.outW_len _ _) (Nat.mul_le_mul (by rw[zAK]; lia) (by lia));have e2:(CR.leftW p.2 p.1 qs).length<=1001:=zAA (CR.leftW_len _ _ _) (by lia);refine (x4 r u _ _ (c7 rfl rfl (s3 _ _ h1) hz (by rw[pk.len,pz.len,zCv]; lia) (x2 _ _ (c3 rfl Af ?_)) (fun x o z=>?_)))
  ·have e:CR.outW (ps.take (i+1)) qs=CR.outW (ps.take i) qs++CR.leftW p.2 p.1 qs:=by
    rw[Gv hp];unfold CR.outW;rw[zAz,List.flatten_append,List.map_singleton,List.flatten_singleton]
   rw[e];exact ((pk.mono (Es s3)).app pz).mono (Jh (s3 _ _ h1) _)
  ·rw[Aq (Ap z hr')]
   exact s3 _ _ (s2 x o z)
 ·rintro σ H2 ⟨⟨o1,ys,rfl,h1,pk⟩,s2⟩
  rw[lx,zAO] at pk;exact (vE rfl (q r H2 s2 hr' ⟨ys,h1,pk⟩))
end
abbrev Cv:=Addr×Str×Bool
def Qy (c:Cv):V:=.ref c.1
def CvsAt (C:Addr) (H:Hp) (cs:List Cv):Prop:=∀ c∈cs,∃ dx fs,H c.1=some (.ins C dx fs)/\fs.lookup ("name" : Str)=some (.str c.2.1)/\fs.lookup ("waits" : Str)=some (.bl c.2.2)
theorem CvsAt.same {C:Addr} {H H':Hp} {cs:List Cv} (h:CvsAt C H cs) (s:Same H H'):CvsAt C H' cs:=fun c hc=>by
 obtain⟨dx,fs,e,r⟩:=h c hc;exact⟨dx,fs,s _ _ e,r⟩
theorem CvsAt.get {C:Addr} {H:Hp} {cs:List Cv} {i:Nat} {x:V} (h:CvsAt C H cs) (e:(cs.map Qy)[i]?=some x):∃ c dx fs,cs[i]?=some c/\x = .ref c.1/\c∈cs/\H c.1=some (.ins C dx fs)/\fs.lookup ("name" : Str)=some (.str c.2.1)/\fs.lookup ("waits" : Str)=some (.bl c.2.2):=by
 rw[zAu] at e;obtain⟨c,hc,rfl⟩:=zAD.mp e;have m:=zAB hc;obtain⟨dx,fs,r⟩:=h c m;exact⟨c,dx,fs,hc,rfl,m,r⟩
theorem CvsAt.ne {C CB:Addr} {H:Hp} {cs:List Cv} {p dx:Addr} (h:CvsAt C H cs) (hp:H p=some (.ins CB dx [])):∀ c∈cs,c.1≠p:=fun c hc z=>by
 obtain⟨d2,fs,e,n,_⟩:=h c hc;rw[z,hp] at e;injection e with e;injection e with _ _ e;subst e;cases n
theorem CvsAt.kb {C CB:Addr} {H H':Hp} {cs:List Cv} {p dx:Addr} (h:CvsAt C H cs) (hp:H p=some (.ins CB dx [])) (k:KB p H H'):CvsAt C H' cs:=fun c hc=>by
 obtain⟨d2,fs,e,r⟩:=h c hc;exact⟨d2,fs,k _ _ e (h.ne hp c hc),r⟩
def AA (cs:List Cv):List Cv:=cs.filter (fun c => !c.2.2)++cs.filter (fun c=>c.2.2)
structure HM (CB:Addr) (H:Hp) (p cl ak:Addr) (cs:List Cv):Prop where
 ob:∃ dx fs,H p=some (.ins CB dx fs)/\fs.lookup ("covers" : Str)=some (.ref cl)/\fs.lookup ("asking" : Str)=some (.ref ak)/\fs.lookup ("named" : Str)=none
 hc:H cl=some (.lst (cs.map Qy))
 ha:H ak=some (.lst ((AA cs).map Qy))
def Zo (C CB:Addr):Sp:=fun vs H Q _=>∃ p dx a cs,vs=[.ref p,.ref a]/\H p=some (.ins CB dx [])/\H a=some (.lst (cs.map Qy))/\CvsAt C H cs/\cs.length<=8/\(cs.map (·.2.1)).Nodup /\
 ∀ cl ak H',KB p H H'->HM CB H' p cl ak cs->H cl=none->H ak=none->Q .non H'
theorem Sm {α:Type} {l:List α} {f:α->Bool} {i:Nat} {x:α} (h:l[i]?=some x):(l.take (i+1)).filter f=(l.take i).filter f++if f x=true then [x] else []:=by
 rw[Gv h,zBv];by_cases c:f x=true
 ·rw[if_pos c,zBA c,zBe]
 ·rw[if_neg c,zBB c,zBe]
section
variable {P:Program} {w:World} {K:zAa} {mg:Str->Option Value} {base:Heap} {Ab Ad Ae Ag Al Ak Am Ac As At:Addr}
theorem Ms:Aw ["self", "covers", "names", "firm", "waiting"] ["self", "covers"] (Ar Fd):=by injections
theorem Mp {f:Addr} {fd:zCx} (F:Fun K "__init__" "Book.__init__" Fd f fd) (T:Txt K mg) (L:Kl K mg Ab Ad Ae Ag Al Ak Am Ac As At):FnOk P w K mg base Da 1 f fd ["self", "covers"] (Zo Ac As):=by
 have sc:=Ms;bv_omega
 ·obtain⟨_,_,_,_,rfl,_⟩:=h
  rfl
 obtain⟨p,dx,a,cs,rfl,hp,ha,hcs,l8,nd,q⟩:=h;have l60:cs.length<60:=by lia
 refine⟨_,(Aj (Cd (Bd Ie (Bb Bh rfl T.n_len (show zCw _=some (.builtin "len") from rfl) (Aa (pv 1) Ah)) (Cu T.g_MOST_COVERS rfl) (Bf _))
    (An Gy)
    Bm)
   (Aj (Cs (NC:=["cover"]) (own:=["cover"]) (cs:=[]) (ix:=[]) (j:=2) sc.nd rfl rfl rfl (CompScope.of rfl) rfl trivial (Bg (pv 1)) (fun _ _ _=>(Ax (i:=0) (show (["cover"]:List Str).Nodup from by ac_nf) rfl (Or.inl rfl))) (fun _ _ _=>By) (fun _ _ _=>(Jc (K:=K) (pv 0) rfl)))
   (Aj (Cd (Bd Hx (M8 (pv 2) rfl rfl T.n_len rfl T.n_set) (Bb Bh rfl T.n_len (show zCw _=some (.builtin "len") from rfl) (Aa (pv 2) Ah)) (Bf _))
    (An Gy)
    Bm)
   (Aj (Di (pv 0) (El Ei rfl T.n_list (show zCw _=some (.type "list") from rfl) (Aa (pv 1) Ah)) rfl)
   (Aj (Cs (NC:=["cover"]) (own:=["cover"]) (cs:=[]) (ix:=[]) (j:=3) sc.nd rfl rfl rfl (CompScope.of rfl) rfl trivial (Bg (pv 1)) (fun _ _ _=>(Ax (i:=0) (show (["cover"]:List Str).Nodup from by ac_nf) rfl (Or.inl rfl))) (fun _ _ _=>(Ef (Fv (Dw (Jc (K:=K) (pv 0) rfl))))) (fun _ _ _=>(pv 0)))
   (Aj (Cs (NC:=["cover"]) (own:=["cover"]) (cs:=[]) (ix:=[]) (j:=4) sc.nd rfl rfl rfl (CompScope.of rfl) rfl trivial (Bg (pv 1)) (fun _ _ _=>(Ax (i:=0) (show (["cover"]:List Str).Nodup from by ac_nf) rfl (Or.inl rfl))) (fun _ _ _=>(Ef (Dw (Jc (K:=K) (pv 0) rfl)))) (fun _ _ _=>(pv 0)))
   (An (Di (pv 0) (Bc Hr (pv 3) (pv 4)) rfl)))))))),?_⟩
 refine W3 fun N eN=>?_;have one:1<=sizeLine:=by rw[zCv]; decide
 have k0:KB p H H:=fun _ _ e _=>e;have lm:(cs.map Qy).length=cs.length:=zAb _;have nap:a≠p:=Ii ha hp (by intro z; cases z);refine (vE rfl (x2 a _ (c3 rfl (.inl (SqL.of ha)) (vF rfl rfl (vE rfl ?_)))));refine dF (by rw[lm]; lia) ?_;refine K6 eN fun N eN=>?_;refine (vE rfl ⟨a,rfl,⟨_,SqL.of ha⟩,fun n nn=>?_⟩);refine Bo (K:=K) (a:=a) (xs:=cs.map Qy) (fun i ys H2=>ys=((cs.take i).map (·.2.1)).map V.str/\H2 n=some (.lst ys)/\Same H H2) ⟨rfl,Af,Ai nn _⟩
  (fun i ys H2 _ ⟨e,h1,s2⟩=>⟨h1,by rw[e,zAb,zAb,zAK]; lia,SqL.of (s2 _ _ ha)⟩) (by rw[zCv]; lia) (fun i x ys H2 hi ⟨e,h1,s2⟩=>?_) (fun ys H2 ⟨e,h1,s2⟩=>?_)
 ·obtain⟨c,dc,fc,ec,rfl,mc,hc,n1,w1⟩:=hcs.get hi
  refine (vE rfl (x5 c.1 Ac dc fc _ (JW rfl (s2 _ _ hc) L.cl_Cover L.na_Cover_name n1 h1 rfl ?_ Af (fun b o z=>?_))))
  ·rw[Gv ec,zAz,zAz,e]
   rfl
  ·rw[Aq (Ap z nn)]
   exact s2 b o z
 rw[lm,zAO] at e;subst e;refine BZ eN [some (.ref p),some (.ref a),some (.ref n),none,none] rfl fun N eN=>?_;have hp2:=s2 _ _ hp;have ha2:=s2 _ _ ha;have k2:KB p H H2:=k0.same s2;have hcs2:=hcs.same s2;refine (vE rfl ⟨n,cs.map (·.2.1),rfl,SqL.of h1,by rw[zAb]; exact l60,fun m m1 m2=>?_⟩);refine (vE rfl (x2 n _ (c3 rfl (.inl (SqL.of h1)) (vF rfl rfl (vE rfl ?_)))));have:=m1 nd;refine dF (by rw[zAb]; lia) ?_;clear m1 m2 this;refine K6 eN fun N eN=>?_;refine (vE rfl (x2 a _ (c3 rfl (.inl (SqL.of ha2)) (fun cl ncl=>?_))));have s3:=Ai ncl (.lst (cs.map Qy));have ncp:cl≠p:=(Ap hp2 ncl).symm;refine (vE rfl ⟨p,As,dx,[],rfl,s3 _ _ hp2,L.cl_Book,L.na_Book_covers,by decide,?_⟩);have k3:KB p H (upd (upd H2 cl (.lst (cs.map Qy))) p (.ins As dx (Bi "covers" (.ref cl) []))):=(k2.same s3).upd _;have e3:upd (upd H2 cl (.lst (cs.map Qy))) p (.ins As dx (Bi "covers" (.ref cl) [])) p=some (.ins As dx (Bi "covers" (.ref cl) [])):=Af;have c3:upd (upd H2 cl (.lst (cs.map Qy))) p (.ins As dx (Bi "covers" (.ref cl) [])) cl=some (.lst (cs.map Qy)):=by rw[Aq ncp,Af]
 have fcl:H cl=none:=k2.free ncp ncl;have hcs3:=hcs.kb hp k3;have ha3:=k3 _ _ ha nap;generalize upd (upd H2 cl (.lst (cs.map Qy))) p (.ins As dx (Bi "covers" (.ref cl) []))=H3 at k3 e3 c3 hcs3 ha3;refine K6 eN fun N eN=>?_;refine (vE rfl ⟨a,rfl,⟨_,SqL.of ha3⟩,fun fi nfi=>?_⟩);refine Bo (K:=K) (a:=a) (xs:=cs.map Qy) (fun i ys H4=>ys=((cs.take i).filter (fun c => !c.2.2)).map Qy/\H4 fi=some (.lst ys)/\Same H3 H4) ⟨rfl,Af,Ai nfi _⟩
  (fun i ys H4 _ ⟨e,h1,s4⟩=>⟨h1,by rw[e,zAb]; exact zAA (zAG _ _) (by rw[zAK]; lia),SqL.of (s4 _ _ ha3)⟩) (by rw[zCv]; lia) (fun i x ys H4 hi ⟨e,h1,s4⟩=>?_) (fun ys H4 ⟨e,hf4,s4⟩=>?_)
 ·obtain⟨c,dc,fc,ec,rfl,mc,hc,n1,w1⟩:=hcs3.get hi
  refine (vE rfl (x5 c.1 Ac dc fc _ ⟨rfl,s4 _ _ hc,L.cl_Cover,L.na_Cover_waits,w1,_,rfl,?_⟩));have es:=Sm (f:=fun c:Cv => !c.2.2) ec;cases cw:c.2.2 with
  | true=>
   refine Dk ⟨rfl,?_,h1,s4⟩;rw[es,e,cw];simp
  | false=>
   refine Jr (vE rfl ⟨h1,rfl,?_,Af,fun b o z=>?_⟩)
   ·rw[es,e,cw]
    simp [Qy]
   ·rw[Aq (Ap z nfi)]
    exact s4 b o z
 rw[lm,zAO] at e;subst e;refine BZ eN [some (.ref p),some (.ref a),some (.ref n),some (.ref fi),none] rfl fun N eN=>?_;have ha4:=s4 _ _ ha3;have hcs4:=hcs3.same s4;refine (vE rfl ⟨a,rfl,⟨_,SqL.of ha4⟩,fun wa nwa=>?_⟩);refine Bo (K:=K) (a:=a) (xs:=cs.map Qy) (fun i ys H5=>ys=((cs.take i).filter (fun c=>c.2.2)).map Qy/\H5 wa=some (.lst ys)/\Same H4 H5) ⟨rfl,Af,Ai nwa _⟩
  (fun i ys H5 _ ⟨e,h1,s5⟩=>⟨h1,by rw[e,zAb]; exact zAA (zAG _ _) (by rw[zAK]; lia),SqL.of (s5 _ _ ha4)⟩) (by rw[zCv]; lia) (fun i x ys H5 hi ⟨e,h1,s5⟩=>?_) (fun ys H5 ⟨e,hw5,s5⟩=>?_)
 ·obtain⟨c,dc,fc,ec,rfl,mc,hc,n1,w1⟩:=hcs4.get hi
  refine (vE rfl (x5 c.1 Ac dc fc _ ⟨rfl,s5 _ _ hc,L.cl_Cover,L.na_Cover_waits,w1,_,rfl,?_⟩));have es:=Sm (f:=fun c:Cv=>c.2.2) ec;cases cw:c.2.2 with
  | false=>
   refine Dk ⟨rfl,?_,h1,s5⟩;rw[es,e,cw];simp
  | true=>
   refine Jr (vE rfl ⟨h1,rfl,?_,Af,fun b o z=>?_⟩)
   ·rw[es,e,cw]
    simp [Qy]
   ·rw[Aq (Ap z nwa)]
    exact s5 b o z
 rw[lm,zAO] at e;subst e;subst eN; refine FK [some (.ref p),some (.ref a),some (.ref n),some (.ref fi),some (.ref wa)] rfl ?_;have hf5:=s5 _ _ hf4;have e5:=s5 _ _ (s4 _ _ e3);have c5:=s5 _ _ (s4 _ _ c3);have k5:=(k3.same s4).same s5;refine (vE rfl (vE rfl (x4 fi wa _ _ (c6 rfl rfl hf5 hw5 ?_ (fun ak nak=>?_)))))
 ·rw[zAb,zAb]
  have:=zAG (fun c:Cv => !c.2.2) cs;have:=zAG (fun c:Cv=>c.2.2) cs;rw[zCv]
  lia
 have nkp:ak≠p:=(Ap e5 nak).symm;have s6:=Ai nak (.lst ((cs.filter (fun c => !c.2.2)).map Qy++(cs.filter (fun c=>c.2.2)).map Qy));have g3:(Bi "covers" (.ref cl) []).length<=1:=Er _ _ _;refine (vE rfl (x4 p As dx _ (c6 rfl (s6 _ _ e5) L.cl_Book L.na_Book_asking (zCc g3 (by decide)) ?_)));refine q cl ak _ ((k5.same s6).upd _) ⟨⟨dx,_,Af,by rw[f1 (by ac_nf),f0],f0,by rw[f1 (by ac_nf),f1 (by ac_nf)]; rfl⟩,?_,?_⟩ fcl (k5.free nkp nak)
 ·rw[Aq ncp]
  exact s6 _ _ c5
 ·rw[Aq nkp,Af]
  unfold AA;rw[zAz]
end
abbrev JV:=List (List Ff×V)
structure IB (CC:Addr) (H:Hp) (p kp:Addr) (kvs:JV):Prop where
 ob:∃ dx fs,H p=some (.ins CC dx fs)/\fs.lookup ("kept" : Str)=some (.ref kp)/\fs.lookup ("have" : Str)=none/\fs.lookup ("add" : Str)=none
 hk:H kp=some (.dT kvs)
def P8 (CC:Addr):Sp:=fun vs H Q _=>∃ p dx,vs=[.ref p]/\H p=some (.ins CC dx [])/\∀ kp H',KB p H H'->IB CC H' p kp []->H kp=none->Q .non H'
section
variable {P:Program} {w:World} {K:zAa} {mg:Str->Option Value} {base:Heap} {Ab Ad Ae Ag Al Ak Am Ac As At:Addr}
theorem Jx:Aw ["self"] ["self"] (Ar Ec):=by injections
theorem Jw {f:Addr} {fd:zCx} (F:Fun K "__init__" "Counts.__init__" Ec f fd) (T:Txt K mg) (L:Kl K mg Ab Ad Ae Ag Al Ak Am Ac As At):FnOk P w K mg base Da 1 f fd ["self"] (P8 At):=by
 have sc:=Jx;bv_omega
 ·obtain⟨_,_,rfl,_⟩:=h
  rfl
 obtain⟨p,dx,rfl,hp,q⟩:=h;refine⟨_,(An (Di (pv 0) Q4 rfl)),?_⟩;intro kp nk;have s1:=Ai nk (.dT []);have np:kp≠p:=(Ap hp nk).symm;have k0:KB p H H:=fun _ _ e _=>e;refine (vE rfl ⟨p,At,dx,[],rfl,s1 _ _ hp,L.cl_Counts,L.na_Counts_kept,by decide,?_⟩);refine q kp _ ((k0.same s1).upd _) ⟨⟨dx,_,Af,f0,by rw[f1 (by ac_nf)]; rfl,by rw[f1 (by ac_nf)]; rfl⟩,?_⟩ nk;rw[Aq np,Af]
def Qp (z:LS) (cs:List Cw):List Cw:=(Re cs).filter fun x=>hT x.t z
def Ut (κ:A8) (C:Addr):Sp:=fun vs H Q _=>∃ x n l,vs=[.ref x.p,n,l]/\CwAt κ C H x/\∀ r H',Same H H'->H r=none->H' r=some (.lst [])->Q (.ref r) H'
def Ow (κ:A8) (C CB:Addr):Sp:=fun vs H Q _=>∃ b l cs z,vs=[.ref b,.ref l]/\BwAt κ C CB H b cs/\cs.length<=20/\Z2 H l z/\∀ r H',Same H H'->H r=none->H' r=some (.lst ((Qp z cs).map Sa))->Q (.ref r) H'
def Uh (κ:A8) (C:Addr):Sp:=fun vs H Q _=>∃ x n u un,∃ c:Int,vs=[.ref x.p,n,.int c,.ref u]/\CwAt κ C H x/\0<c/\LP H u un/\(un=[(0,c)]\/un=[])/\∀ r H',Same H H'->H r=none->LP H' r un->Q (.ref r) H'
theorem Xt {cs:List Cw} {x:Cw} (h:x∈Re cs):x∈cs:=by
 unfold Re at h;rcases zAy.mp h with g | g
 ·exact (zBb.mp g).1
 ·exact (zBb.mp g).1
theorem Yg {cs:List Cw}:(Re cs).length<=2*cs.length:=by
 unfold Re;rw[zAi];have:=zAG (fun x:Cw => !x.wt) cs;have:=zAG (fun x:Cw=>x.wt) cs
 lia
theorem Z8 {c:Int} (c0:0<c) {un:List CR.Rn} (h:un=[(0,c)]\/un=[]):CR.cutW un 0 c=un:=by
 rcases h with e | e
 ·rw[e]
  unfold CR.cutW CR.cutM;simp [c0]
 ·rw[e]
  rfl
theorem Rx:Aw ["cover", "counts", "loss"] ["cover", "counts", "loss"] (Ar Hs):=by injections
theorem Rh {f:Addr} {fd:zCx} (F:Fun K "numbers_of" "numbers_of" Hs f fd) (T:Txt K mg) (L:Kl K mg Ab Ad Ae Ag Al Ak Am Ac As At):FnOk P w K mg base Da 1 f fd ["cover", "counts", "loss"] (Ut (A8.mk Ab Ad Ae Ag Al Am Ac Ak) Ac):=by
 have sc:=Rx;bv_omega
 ·obtain⟨_,_,_,rfl,_⟩:=h
  rfl
 obtain⟨x,n,c,rfl,⟨dx,fs,cv,cl,e,a1,a2,a3,a4,a5,a6,a7,a8⟩,q⟩:=h;refine⟨_,(An (Az (Cj (NC:=["k", "clause", "counts", "cover", "loss"]) (own:=["k", "clause"]) (cs:=["counts", "cover", "loss"]) (ix:=[1,0,2]) rfl (CompScope.of rfl) rfl ⟨⟨rfl,.inl rfl,rfl⟩,⟨⟨rfl,.inl rfl,rfl⟩,⟨⟨rfl,.inl rfl,rfl⟩,trivial⟩⟩⟩ (Ld rfl T.n_enumerate (Aa (Cc (pv 0) rfl) Ah)) (fun _ _ _=>(Lp (K:=K) (n:=2) rfl rfl (Bn (Ax (i:=0) (show (["k", "clause", "counts", "cover", "loss"]:List Str).Nodup from by ac_nf) rfl (Or.inl rfl)) (Bn (Ax (i:=1) (show (["k", "clause", "counts", "cover", "loss"]:List Str).Nodup from by ac_nf) rfl (Or.inl rfl)) Ds)))) (fun _ _ _=>By) (fun _ _ _=>Xi)))),?_⟩;refine (vE rfl ⟨x.p,Ac,dx,fs,_,rfl,e,L.cl_Cover,L.na_Cover_clauses,a3,cl,rfl,⟨_,SqL.of a8⟩,fun r nr=>?_⟩);refine Tb (K:=K) (a:=cl) (xs:=[]) (fun i ys H2=>ys=[]/\H2 r=some (.lst [])/\Same H H2) ⟨rfl,Af,Ai nr _⟩ (fun i ys H2 _ ⟨e,h1,s2⟩=>⟨by rw[e]; exact h1,by rw[e]; exact zAk _,SqL.of (s2 _ _ a8)⟩) (zAk _) (fun i y ys H2 t hi=>by simp at hi) (fun ys H2 ⟨e,h1,s2⟩=>q r H2 s2 nr h1)
theorem Xu:Aw ["book", "loss"] ["book", "loss"] (Ar Kk):=by injections
theorem Ym {f:Addr} {fd:zCx} (F:Fun K "asked_of" "asked_of" Kk f fd) (T:Txt K mg) (L:Kl K mg Ab Ad Ae Ag Al Ak Am Ac As At) (Masks:Il P w K mg base 3 Ac "asks" ["self", "loss"] (Oj (A8.mk Ab Ad Ae Ag Al Am Ac Ak) Ac)) :
  FnOk P w K mg base Da 4 f fd ["book", "loss"] (Ow (A8.mk Ab Ad Ae Ag Al Am Ac Ak) Ac As):=by
 have sc:=Xu;bv_omega
 ·obtain⟨_,_,_,_,rfl,_⟩:=h
  rfl
 obtain⟨b,l,cs,z,rfl,⟨dx,fs,cl,ak,e,a1,a2,hcl,hak,all⟩,l20,hl,q⟩:=h;refine⟨_,(An (Az (Cj (NC:=["cover", "loss"]) (own:=["cover"]) (cs:=["loss"]) (ix:=[1]) rfl (CompScope.of rfl) rfl ⟨⟨rfl,.inl rfl,rfl⟩,trivial⟩ (Bg (Cc (pv 0) rfl)) (fun _ _ _=>(Ax (i:=0) (show (["cover", "loss"]:List Str).Nodup from by ac_nf) rfl (Or.inl rfl))) (fun _ _ _=>(Ef (Dw (Dp Masks (hr.mono (by decide)) (pv 0) (Aa (pv 1) Ah))))) (fun _ _ _=>(pv 0))))),?_⟩;have la:=Yg (cs:=cs);have alla:∀ x∈Re cs,CwAt (A8.mk Ab Ad Ae Ag Al Am Ac Ak) Ac H x:=fun x hx=>all x (Xt hx);unfold Qp at q;generalize Re cs=bs at hak la alla q;have lm:(bs.map Sa).length=bs.length:=zAb _;refine (vE rfl ⟨b,As,dx,fs,_,rfl,e,L.cl_Book,L.na_Book_asking,a2,ak,rfl,⟨_,SqL.of hak⟩,fun r nr=>?_⟩);refine Bo (K:=K) (a:=ak) (xs:=bs.map Sa) (fun i ys H2=>ys=((bs.take i).filter fun x=>hT x.t z).map Sa/\H2 r=some (.lst ys)/\Same H H2) ⟨rfl,Af,Ai nr _⟩
  (fun i ys H2 _ ⟨e2,h1,s2⟩=>⟨h1,by rw[e2,zAb]; exact zAA (zAG _ _) (by rw[zAK]; lia),SqL.of (s2 _ _ hak)⟩) (by rw[zCv]; lia) (fun i v ys H2 hi ⟨e2,h1,s2⟩=>?_) (fun ys H2 ⟨e2,h1,s2⟩=>?_)
 ·rw[zAu] at hi
  obtain⟨x,hx,rfl⟩:=zAD.mp hi;have mx:=zAB hx;have cx:=(alla x mx).same s2;obtain⟨d2,f2,_,_,e3,_,_,_,_,n5,_⟩:=id cx;have hl2:Z2 H2 l z:=by obtain⟨ev,n,y⟩:=hl; exact⟨ev,n,s2 _ _ y⟩
  refine (vE rfl ⟨x.p,d2,f2,rfl,e3,n5.1,_,rfl,x,l,z,rfl,cx,hl2,_,rfl,?_⟩);have es:(bs.take (i+1)).filter (fun x=>hT x.t z)=(bs.take i).filter (fun x=>hT x.t z)++if hT x.t z=true then [x] else []:=by
   rw[Dd hx,zBv];by_cases c:hT x.t z=true
   ·rw[if_pos c,zBA (by exact c),zBe]
   ·rw[if_neg c,zBB (by exact c),zBe]
  cases cw:hT x.t z with
  | false=>
   refine Dk ⟨rfl,?_,h1,s2⟩;rw[es,e2,cw];simp
  | true=>
   refine Jr (vE rfl ⟨h1,rfl,?_,Af,Bj nr s2⟩);rw[es,e2,cw,if_pos rfl,zAz];rfl
 ·rw[lm,zAO] at e2
  subst e2;exact q r _ s2 nr h1
theorem To:Aw ["cover", "numbers", "cents", "unpaid", "window", "rest", "most"] ["cover", "numbers", "cents", "unpaid"] (Ar Ip):=by injections
theorem Us {f:Addr} {fd:zCx} (F:Fun K "paid_runs" "paid_runs" Ip f fd) (T:Txt K mg) (Mwindow:Il P w K mg base 2 Ac "window" ["self", "counts", "cents"] (Va (A8.mk Ab Ad Ae Ag Al Am Ac Ak) Ac)) (Mrest:Il P w K mg base 1 Ac "rest" ["self", "counts"] (Lo (A8.mk Ab Ad Ae Ag Al Am Ac Ak) Ac))
  (Ccut_within:Cr P w K mg base 1 "cut_within" ["runs", "lo", "hi"] C5) (Clowest_of:Cr P w K mg base 1 "lowest_of" ["runs", "n"] Pn):FnOk P w K mg base Da 3 f fd ["cover", "numbers", "cents", "unpaid"] (Uh (A8.mk Ab Ad Ae Ag Al Am Ac Ak) Ac):=by
 have sc:=To;bv_omega
 ·obtain⟨_,_,_,_,_,rfl,_⟩:=h
  rfl
 obtain⟨x,n,u,un,c,rfl,cx,c0,lu,hun,q⟩:=h;obtain⟨dx,fs,_,_,e,_,_,_,_,n5,_⟩:=id cx;refine⟨_,(Aj (Ba (i:=4) sc.nd rfl (Or.inl rfl) (Dp Mwindow (hr.mono (by decide)) (pv 0) (Aa (pv 1) (Aa (pv 2) Ah))))
   (Aj (Ba (i:=5) sc.nd rfl (Or.inl rfl) (Dp Mrest (hr.mono (by decide)) (pv 0) (Aa (pv 1) Ah)))
   (Aj (Ba (i:=6) sc.nd rfl (Or.inl rfl) (Et (Bd Qq (pv 5) Gb (Bf _)) Gb (Be Br (pv 5) Ao (fun _ _=>rfl))))
   (An (Az (Av Clowest_of (hr.mono (by decide)) rfl (Aa (Av Ccut_within (hr.mono (by decide)) rfl (Aa (pv 3) (Aa (Be Br (pv 4) Ao (fun _ _=>rfl)) (Aa (Be Br (pv 4) Ao (fun _ _=>rfl)) Ah)))) (Aa (pv 6) Ah)))))))),?_⟩
 have l1:un.length<=1:=by rcases hun with e | e <;> rw[e] <;> simp
 refine (vE rfl ⟨x.p,dx,fs,rfl,e,n5.2.2.1,vE rfl (vE rfl ⟨x,n,c,rfl,cx,c0,fun t H1 s1 nt ht=>?_⟩)⟩);refine Dt [some (.ref x.p),some n,some (.int c),some (.ref u),some (.ref t),none,none] rfl ?_;refine (vE rfl ⟨x.p,dx,fs,rfl,s1 _ _ e,n5.2.2.2.2,vE rfl ⟨x,n,rfl,cx.same s1,fun H2 s2=>?_⟩⟩);refine Dt [some (.ref x.p),some n,some (.int c),some (.ref u),some (.ref t),some .non,none] rfl ?_;refine (vE rfl ⟨rfl,vE rfl (dT rfl ?_)⟩);refine Dt [some (.ref x.p),some n,some (.int c),some (.ref u),some (.ref t),some .non,some .non] rfl ?_;have ht2:=s2 _ _ ht;have S2:=s1.trans s2;refine (vE rfl (vE rfl (vI rfl rfl (SqT.of ht2) rfl (vE rfl (vI rfl rfl (SqT.of ht2) rfl ⟨u,un,0,c,rfl,LP.same S2 lu,by lia,fun r1 H3 s3 nr1 lp=>(vE rfl (.inr ⟨r1,_,rfl,lp,fun r H4 s4 nr lp4=>?_⟩))⟩)))));rw[Z8 c0 hun] at lp4;exact q r H4 (S2.trans (s3.trans s4)) (S2.free (s3.free nr)) lp4
def Qb (κ:A8) (C:Addr):Sp:=fun vs H Q _=>∃ x n u,∃ c:Int,vs=[.ref x.p,n,.int c,.ref u]/\CwAt κ C H x/\0<c/\LP H u []/\∀ r H',Same H H'->H r=none->H' r=some (.lst [])->Q (.ref r) H'
def Mg (κ:A8) (C CB:Addr):Sp:=fun vs H Q _=>∃ b cp l cs n d ev th ca,∃ c:Int,vs=[.ref b,cp,.ref l]/\BwAt κ C CB H b cs/\cs.length<=20/\H l=some (.tup [.int n,.int d,.str ev,.str th,.str ca,.int c])/\0<c/\∀ r ys H',Same H H'->H r=none->H' r=some (.lst ys)->Q (.ref r) H'
theorem DK {α:Type} {a x:α} {i:Nat} (h:[a][i]?=some x):i=0/\x=a:=by
 match i,h with
 | 0,h=>cases h; exact⟨rfl,rfl⟩
 | i+1,h=>simp at h
def Sq9 (H:Hp):List V->List (Int×Int×Str×Int)->Prop
 | [],[]=>True
 | v::vs,s::S=>(∃ t,v = .ref t/\H t=some (.tup [.int s.1,.int s.2.1,.str s.2.2.1,.int s.2.2.2]))/\Sq9 H vs S
 | _,_=>False
theorem Sq9.mono {H H':Hp} (s:∀ t ws,H t=some (.tup ws)->H' t=some (.tup ws)):∀ {vs:List V} {S:List (Int×Int×Str×Int)},Sq9 H vs S->Sq9 H' vs S
 | [],[],_=>trivial
 | [],_::_,h=>h.elim
 | _::_,[],h=>h.elim
 | _::vs,_::S,⟨⟨t,e,h⟩,r⟩=>⟨⟨t,e,s _ _ h⟩,Sq9.mono s r⟩
theorem Sq9.len {H:Hp}:∀ {vs:List V} {S:List (Int×Int×Str×Int)},Sq9 H vs S->vs.length=S.length
 | [],[],_=>rfl
 | [],_::_,h=>h.elim
 | _::_,[],h=>h.elim
 | _::vs,_::S,h=>by rw[zAl,zAl,Sq9.len h.2]
theorem Sq9.app {H:Hp}:∀ {vs ws:List V} {S R:List (Int×Int×Str×Int)},Sq9 H vs S->Sq9 H ws R->Sq9 H (vs++ws) (S++R)
 | [],_,[],_,_,h=>h
 | [],_,_::_,_,h,_=>h.elim
 | _::_,_,[],_,h,_=>h.elim
 | _::_,_,_::_,_,⟨a,r⟩,h=>⟨a,Sq9.app r h⟩
theorem Sq9.tupF {K:zAa} {H:Hp}:∀ {xs:List V} {S:List (Int×Int×Str×Int)},Sq9 H xs S->TupF K H xs (S.map (·.1))
 | [],[],_=>trivial
 | [],_::_,h=>h.elim
 | _::_,[],h=>h.elim
 | x::xs,p::ps,⟨⟨t,e,h⟩,r⟩=>⟨⟨t,_,e,SqT.of h,rfl⟩,Sq9.tupF r⟩
theorem Ny:Aw ["cover", "numbers", "cents", "unpaid", "rest", "strips", "lo", "hi", "k", "clause"] ["cover", "numbers", "cents", "unpaid"] (Ar Fp):=by injections
theorem Ob {f:Addr} {fd:zCx} (F:Fun K "borne_strips" "borne_strips" Fp f fd) (T:Txt K mg) (L:Kl K mg Ab Ad Ae Ag Al Ak Am Ac As At) (Mrest:Il P w K mg base 1 Ac "rest" ["self", "counts"] (Lo (A8.mk Ab Ad Ae Ag Al Am Ac Ak) Ac)) (Mparts:Il P w K mg base 2 Ac "parts" ["self", "counts", "cents"] (Pp (A8.mk Ab Ad Ae Ag Al Am Ac Ak) Ac))
  (Ccut_within:Cr P w K mg base 1 "cut_within" ["runs", "lo", "hi"] C5):FnOk P w K mg base Da 3 f fd ["cover", "numbers", "cents", "unpaid"] (Qb (A8.mk Ab Ad Ae Ag Al Am Ac Ak) Ac):=by
 have sc:=Ny;bv_omega
 ·obtain⟨_,_,_,_,rfl,_⟩:=h
  rfl
 obtain⟨x,n,u,c,rfl,cx,c0,lu,q⟩:=h;obtain⟨dx,fs,_,_,e,_,_,_,_,n5,_⟩:=id cx;refine⟨_,(Aj (Ba (i:=4) sc.nd rfl (Or.inl rfl) (Dp Mrest (hr.mono (by decide)) (pv 0) (Aa (pv 1) Ah)))
   (Aj (Ba (i:=5) sc.nd rfl (Or.inl rfl) (Bp Ah))
   (Aj (Cg PassesOwn.never rfl (Bg (Dp Mparts (hr.mono (by decide)) (pv 0) (Aa (pv 1) (Aa (pv 2) Ah)))) (Ig (n:=3) rfl (Bn (Ax (i:=6) sc.nd rfl (Or.inl rfl)) (Bn (Ax (i:=7) sc.nd rfl (Or.inl rfl)) (Bn (Ax (i:=8) sc.nd rfl (Or.inl rfl)) Ds))))
    (Aj (Ba (i:=9) sc.nd rfl (Or.inr rfl) (Et (PW.pt (Uz (Bd Gg (pv 8) (Xp Pl Ao) (Bf _)) (Om (Bd Z4 (pv 4) Gb (Bf _))))) (Be Br (pv 4) Ao (fun _ _=>rfl)) (pv 8)))
   (An (Ck (Fu PySem.F.plainAttrs_list PySem.F.slot_list_extend PySem.F.type_list_extend Dz (pv 5) (Aa (Cj (NC:=["run", "clause", "cover"]) (own:=["run"]) (cs:=["clause", "cover"]) (ix:=[9,0]) rfl (CompScope.of rfl) rfl ⟨⟨rfl,.inl rfl,rfl⟩,⟨⟨rfl,.inl rfl,rfl⟩,trivial⟩⟩ (Bg (Av Ccut_within (hr.mono (by decide)) rfl (Aa (pv 3) (Aa (pv 6) (Aa (pv 7) Ah))))) (fun _ _ _=>(Ax (i:=0) (show (["run", "clause", "cover"]:List Str).Nodup from by ac_nf) rfl (Or.inl rfl))) (fun _ _ _=>By) (fun _ _ _=>(Cp (Aa (Be (Db (K:=K) rfl) (pv 0) Ao (fun _ _=>rfl)) (Aa (Be (Db (K:=K) rfl) (pv 0) Ao (fun _ _=>rfl)) (Aa (Jc (K:=K) (pv 2) rfl) (Aa (pv 1) Ah))))))) Ah))))))
   (An (Az (pv 5)))))),?_⟩
 refine (vE rfl ⟨x.p,dx,fs,rfl,e,n5.2.2.2.2,vE rfl ⟨x,n,rfl,cx,fun H1 s1=>?_⟩⟩);refine Dt [some (.ref x.p),some n,some (.int c),some (.ref u),some .non,none,none,none,none,none] rfl ?_;refine⟨zAk _,fun st nst=>?_⟩;refine Dt [some (.ref x.p),some n,some (.int c),some (.ref u),some .non,some (.ref st),none,none,none,none] rfl ?_;have s2:=Ai nst (.lst []);have h2:upd H1 st (.lst []) st=some (.lst []):=Af;generalize upd H1 st (.lst [])=H2 at s2 h2;have S2:=s1.trans s2;refine (vE rfl ⟨x.p,dx,fs,rfl,S2 _ _ e,n5.2.2.2.1,vE rfl (vE rfl ⟨x,n,c,rfl,cx.same S2,c0,fun pl t H3 s3 npl hpl ht=>?_⟩)⟩);have h3:=s3 _ _ h2;have S3:=S2.trans s3;refine⟨pl,rfl,⟨_,SqL.of hpl⟩,Cf (K:=K) (a:=pl) (xs:=[V.ref t]) (fun i σ H4=>(∃ o6 o7 o8 o9,σ=[some (.ref x.p),some n,some (.int c),some (.ref u),some .non,some (.ref st),o6,o7,o8,o9])/\H4 st=some (.lst [])/\∀ b o,H3 b=some o->b≠st->H4 b=some o)
  ⟨⟨none,none,none,none,rfl⟩,h3,fun _ _ y _=>y⟩ (fun i σ H4 _ hh=>SqL.of (hh.2.2 _ _ hpl (Ii hpl h3 (by intro z; cases z)))) ?_ ?_⟩
 ·rintro i y σ H4 hi ⟨⟨o6,o7,o8,o9,rfl⟩,h4,kp⟩
  obtain⟨rfl,rfl⟩:=DK hi;have ht4:=kp _ _ ht (Ii ht h3 (by intro z; cases z));refine⟨t,_,rfl,SqT.of ht4,rfl,_,_,rfl,_,_,rfl,_,_,rfl,rfl,?_⟩;refine HE [some (.ref x.p),some n,some (.int c),some (.ref u),some .non,some (.ref st),some (.int 0),some (.int c),some (.int (-1)),o9] rfl ?_;refine (vE rfl (vE rfl ⟨rfl,vE rfl (dT rfl ?_)⟩));refine (vE rfl ⟨rfl,vE rfl (nF rfl (vE rfl ?_))⟩);refine Dt [some (.ref x.p),some n,some (.int c),some (.ref u),some .non,some (.ref st),some (.int 0),some (.int c),some (.int (-1)),some (.int (-1))] rfl ?_;have fst:H st=none:=s1.free nst;have s4:Same H H4:=fun b o y=>kp b o (S3 _ _ y) (Ap y fst);refine (vE rfl ⟨.inl ⟨rfl,_,SqL.of h4⟩,vE rfl (vE rfl (vE rfl ⟨u,[],0,c,rfl,LP.same s4 lu,zAk _,fun r1 H5 s5 nr1 ⟨zs,hz,pz⟩=>?_⟩))⟩);have ez:zs=[]:=by
   match zs,pz with
   | [],_=>rfl
  subst ez;refine⟨r1,rfl,⟨_,SqL.of hz⟩,fun r nr=>?_⟩;refine Bo (K:=K) (a:=r1) (xs:=[]) (fun i ys H6=>ys=[]/\H6 r=some (.lst [])/\Same H5 H6) ⟨rfl,Af,Ai nr _⟩ (fun i ys H6 _ ⟨e,h6,s6⟩=>⟨by rw[e]; exact h6,by rw[e]; exact zAk _,SqL.of (s6 _ _ hz)⟩) (zAk _) (fun i y ys H6 hi=>by simp at hi) (fun ys H6 ⟨e6,h6,s6⟩=>?_);have h46:=s6 _ _ (s5 _ _ h4);refine⟨st,r,_,_,rfl,rfl,h46,h6,zAk _,⟨_,_,_,_,rfl⟩,Af,fun b o y nb=>?_⟩;rw[Aq nb];exact s6 _ _ (s5 _ _ (kp b o y nb))
 ·rintro σ H4 ⟨⟨o6,o7,o8,o9,rfl⟩,h4,kp⟩
  have s4:Same H H4:=fun b o y=>kp b o (S3 _ _ y) (Ap y (s1.free nst));exact (vE rfl (q st H4 s4 (s1.free nst) h4))
theorem Uj:Aw ["book", "counts", "loss", "cents", "asked", "unpaid", "strips", "cover", "paid", "first"] ["book", "counts", "loss"] (Ar Im):=by injections
theorem Ux {f:Addr} {fd:zCx} (F:Fun K "strips_of" "strips_of" Im f fd) (T:Txt K mg) (L:Kl K mg Ab Ad Ae Ag Al Ak Am Ac As At) (Casked_of:Cr P w K mg base 4 "asked_of" ["book", "loss"] (Ow (A8.mk Ab Ad Ae Ag Al Am Ac Ak) Ac As)) (Cnumbers_of:Cr P w K mg base 1 "numbers_of" ["cover", "counts", "loss"] (Ut (A8.mk Ab Ad Ae Ag Al Am Ac Ak) Ac))
  (Cpaid_runs:Cr P w K mg base 3 "paid_runs" ["cover", "numbers", "cents", "unpaid"] (Uh (A8.mk Ab Ad Ae Ag Al Am Ac Ak) Ac)) (Cborne_strips:Cr P w K mg base 3 "borne_strips" ["cover", "numbers", "cents", "unpaid"] (Qb (A8.mk Ab Ad Ae Ag Al Am Ac Ak) Ac)) (Ccut_out:Cr P w K mg base 2 "cut_out" ["runs", "others"] Y7) :
  FnOk P w K mg base Da 5 f fd ["book", "counts", "loss"] (Mg (A8.mk Ab Ad Ae Ag Al Am Ac Ak) Ac As):=by
 have sc:=Uj;bv_omega
 ·obtain⟨_,_,_,_,_,_,_,_,_,_,rfl,_⟩:=h
  rfl
 obtain⟨b,cp,l,cs,n,d,ev,th,ca,c,rfl,bw,l20,hl,c0,q⟩:=h;refine⟨_,(Aj (Ba (i:=3) sc.nd rfl (Or.inl rfl) (Be Br (pv 2) (Cu T.g_CENTS rfl) (fun _ _=>rfl)))
   (Aj (Ba (i:=4) sc.nd rfl (Or.inl rfl) (Av Casked_of (hr.mono (by decide)) rfl (Aa (pv 0) (Aa (pv 2) Ah))))
   (Aj (Cd (Fv (R1 (pv 4)))
    (An (Az (Bp (Aa (Cp (Aa Ao (Aa (pv 3) (Aa Dc (Aa Ao Ah))))) Ah))))
    Bm)
   (Aj (Ba (i:=5) sc.nd rfl (Or.inl rfl) (Bp (Aa (Cp (Aa Ao (Aa (pv 3) Ah))) Ah)))
   (Aj (Ba (i:=6) sc.nd rfl (Or.inl rfl) (Bp Ah))
   (Aj (Cg PassesOwn.never rfl (Bg (pv 4)) (Ax (i:=7) sc.nd rfl (Or.inr rfl))
    (Aj (Ba (i:=8) sc.nd rfl (Or.inl rfl) (Av Cpaid_runs (hr.mono (by decide)) rfl (Aa (pv 7) (Aa (Av Cnumbers_of (hr.mono (by decide)) rfl (Aa (pv 7) (Aa (pv 1) (Aa (pv 2) Ah)))) (Aa (pv 3) (Aa (pv 5) Ah))))))
   (Aj (Ck (Fu PySem.F.plainAttrs_list PySem.F.slot_list_extend PySem.F.type_list_extend Dz (pv 6) (Aa (Cj (NC:=["run", "cover"]) (own:=["run"]) (cs:=["cover"]) (ix:=[7]) rfl (CompScope.of rfl) rfl ⟨⟨rfl,.inl rfl,rfl⟩,trivial⟩ (Bg (pv 8)) (fun _ _ _=>(Ax (i:=0) (show (["run", "cover"]:List Str).Nodup from by ac_nf) rfl (Or.inl rfl))) (fun _ _ _=>By) (fun _ _ _=>(Cp (Aa (Be (Db (K:=K) rfl) (pv 0) Ao (fun _ _=>rfl)) (Aa (Be (Db (K:=K) rfl) (pv 0) Ao (fun _ _=>rfl)) (Aa (Jc (K:=K) (pv 1) rfl) (Aa (Xp Pl Ao) Ah))))))) Ah)))
   (An (Ba (i:=5) sc.nd rfl (Or.inl rfl) (Av Ccut_out (hr.mono (by decide)) rfl (Aa (pv 5) (Aa (pv 8) Ah))))))))
   (Aj (Ba (i:=9) sc.nd rfl (Or.inl rfl) (Be Bx (pv 4) Ao (fun _ _=>rfl)))
   (Aj (Ck (Fu PySem.F.plainAttrs_list PySem.F.slot_list_extend PySem.F.type_list_extend Dz (pv 6) (Aa (Av Cborne_strips (hr.mono (by decide)) rfl (Aa (pv 9) (Aa (Av Cnumbers_of (hr.mono (by decide)) rfl (Aa (pv 9) (Aa (pv 1) (Aa (pv 2) Ah)))) (Aa (pv 3) (Aa (pv 5) Ah))))) Ah)))
   (An (Az (Bb Vk rfl T.n_sorted (show zCw _=some (.builtin "sorted") from rfl) (Aa (pv 6) Ah)))))))))))),?_⟩
 have one:1<=sizeLine:=by rw[zCv]; decide
 have two:2<=sizeLine:=by rw[zCv]; decide
 refine (vE rfl (vI rfl rfl (SqT.of hl) rfl ?_));refine Dt [some (.ref b),some cp,some (.ref l),some (.int c),none,none,none,none,none,none] rfl ?_;refine (vE rfl (vE rfl ⟨b,l,cs,⟨d,th,ca,c⟩,rfl,bw,l20,⟨ev,n,hl⟩,fun ak H1 s1 nak hak=>?_⟩));refine Dt [some (.ref b),some cp,some (.ref l),some (.int c),some (.ref ak),none,none,none,none,none] rfl ?_;have alla:∀ x∈Qp ⟨d,th,ca,c⟩ cs,CwAt (A8.mk Ab Ad Ae Ag Al Am Ac Ak) Ac H1 x:=fun x hx=>by
  obtain⟨_,_,_,_,_,_,_,_,_,all⟩:=bw;exact (all x (Xt (zBb.mp hx).1)).same s1
 have la:(Qp ⟨d,th,ca,c⟩ cs).length<=40:=zAA (zAG _ _) (by have:=Yg (cs:=cs); lia);generalize Qp ⟨d,th,ca,c⟩ cs=as at hak alla la;have hl1:=s1 _ _ hl;refine (vE rfl ⟨_,.inl ⟨_,SqL.of hak,rfl⟩,?_⟩);cases eas:as with
 | nil=>
  refine Jr (vE rfl ⟨Bk (by show 4<=1000; decide),fun t nt=>⟨one,fun r nr=>?_⟩⟩);have s2:=Ai nt (.tup [V.int 0,.int c,.str "",.int 0]);exact q r _ _ (s1.trans (s2.trans (Ai nr _))) (s1.free (s2.free nr)) Af
 | cons x0 more=>
 refine Dk ?_;refine (vE rfl ⟨two,fun t0 nt0=>⟨one,fun u0 nu0=>?_⟩⟩);have s2:=(Ai nt0 (.tup [V.int 0,.int c])).trans (Ai nu0 (.lst [V.ref t0]));have lu0:LP (upd (upd H1 t0 (.tup [V.int 0,.int c])) u0 (.lst [V.ref t0])) u0 [(0,c)]:=⟨_,Af,⟨t0,rfl,Ai nu0 (.lst [V.ref t0]) _ _ Af⟩,trivial⟩;generalize upd (upd H1 t0 (.tup [V.int 0,.int c])) u0 (.lst [V.ref t0])=H2 at s2 lu0;refine Dt [some (.ref b),some cp,some (.ref l),some (.int c),some (.ref ak),some (.ref u0),none,none,none,none] rfl ?_;refine⟨zAk _,fun st nst=>?_⟩;have fst:H1 st=none:=s2.free nst;have S3:=s2.trans (Ai nst (.lst []));have lu3:=LP.same (Ai nst (.lst [])) lu0;have hst3:upd H2 st (.lst []) st=some (.lst []):=Af;have nus:u0≠st:=by
  obtain⟨_,y,_⟩:=lu0;exact Ap y nst
 generalize upd H2 st (.lst [])=H3 at S3 lu3 hst3;refine Dt [some (.ref b),some cp,some (.ref l),some (.int c),some (.ref ak),some (.ref u0),some (.ref st),none,none,none] rfl ?_;refine (vE rfl ⟨ak,rfl,⟨_,SqL.of (S3 _ _ hak)⟩,?_⟩);refine Cf (K:=K) (a:=ak) (xs:=as.map Sa) (fun i σ H4=>(∃ u o7 o8,σ=[some (.ref b),some cp,some (.ref l),some (.int c),some (.ref ak),some (.ref u),some (.ref st),o7,o8,none]/\u≠st/\LP H4 u (if i=0 then [(0,c)] else []))/\(∃ ys S,H4 st=some (.lst ys)/\Sq9 H4 ys S/\S.length=if i=0 then 0 else 1)/\Same H1 H4)
  ⟨⟨u0,none,none,rfl,nus,by rw[if_pos rfl]; exact lu3⟩,⟨[],[],hst3,trivial,rfl⟩,S3⟩ (fun i σ H4 _ hh=>SqL.of (hh.2.2 _ _ hak)) ?_ ?_
 ·rintro i y σ H4 hi ⟨⟨u,o7,o8,rfl,nu,lu⟩,⟨ys,S,h4,sq,lS⟩,S4⟩
  rw[zAu] at hi;obtain⟨x,hx,rfl⟩:=zAD.mp hi;have cx:=(alla x (zAB hx)).same S4;have hun:(if i=0 then [((0:Int),c)] else [])=[(0,c)]\/(if i=0 then [((0:Int),c)] else [])=[]:=by
   by_cases z:i=0
   ·exact .inl (if_pos z)
   ·exact .inr (if_neg z)
  obtain⟨un,eun⟩:∃ un,un=(if i=0 then [((0:Int),c)] else []):=⟨_,rfl⟩;rw[<- eun] at lu hun;have lun:un.length=if i=0 then 1 else 0:=by rw[eun]; split <;> rfl
  refine Dt [some (.ref b),some cp,some (.ref l),some (.int c),some (.ref ak),some (.ref u),some (.ref st),some (.ref x.p),o8,none] rfl ?_;refine (vE rfl (vE rfl (vE rfl (vE rfl ⟨x,cp,.ref l,rfl,cx,fun nr H5 s5 nnr hnr=>(vE rfl (vE rfl ⟨x,.ref nr,u,un,c,rfl,cx.same s5,c0,LP.same s5 lu,hun,fun pd H6 s6 npd lp6=>?_⟩))⟩))));refine Dt [some (.ref b),some cp,some (.ref l),some (.int c),some (.ref ak),some (.ref u),some (.ref st),some (.ref x.p),some (.ref pd),none] rfl ?_;obtain⟨xs,hpd,pr⟩:=lp6;have lx:=pr.len;have h5:=s5 _ _ h4;have h6:=s6 _ _ h5;have npt:pd≠st:=(Ap h5 npd).symm;have S6:=S4.trans (s5.trans s6);have cx6:=cx.same (s5.trans s6);obtain⟨dx,fs,_,_,e6,a1,_⟩:=id cx6;refine (vE rfl ⟨.inl ⟨rfl,_,SqL.of h6⟩,vE rfl ⟨pd,rfl,⟨_,SqL.of hpd⟩,fun r nr=>?_⟩⟩);refine Bo (K:=K) (a:=pd) (xs:=xs) (fun j zs H7=>(∃ R,Sq9 H7 zs R/\R.length=j)/\H7 r=some (.lst zs)/\Same H6 H7) ⟨⟨[],trivial,rfl⟩,Af,Ai nr _⟩
   (fun j zs H7 _ ⟨⟨R,r1,r2⟩,h7,s7⟩=>⟨h7,by rw[r1.len,r2]; exact zAf _,SqL.of (s7 _ _ hpd)⟩) (by rw[zCv,lx,lun]; split <;> decide) (fun j v zs H7 hj ⟨⟨R,r1,r2⟩,h7,s7⟩=>?_) (fun zs H7 ⟨⟨R,r1,r2⟩,h7,s7⟩=>?_)
  ·obtain⟨t1,p1,_,rfl,ht1⟩:=pr.get hj
   refine (vE rfl (vI rfl rfl (SqT.of (s7 _ _ ht1)) rfl (vE rfl (vI rfl rfl (SqT.of (s7 _ _ ht1)) rfl (vE rfl ⟨x.p,Ac,dx,fs,_,rfl,s7 _ _ e6,L.cl_Cover,L.na_Cover_name,a1,vE rfl ⟨Bk (by show 4<=1000; decide),fun t2 nt2=>?_⟩⟩)))));have u2:=Ai nt2 (.tup [V.int p1.1,.int p1.2,.str x.nm,.int (-1)]);have ntr:t2≠r:=(Ap h7 nt2).symm;refine⟨u2 _ _ h7,rfl,⟨R++[(p1.1,p1.2,x.nm,-1)],Sq9.app (r1.mono fun t ws y=>?_) ⟨⟨t2,rfl,?_⟩,trivial⟩,by rw[zAi,r2]; rfl⟩,Af,Bj nr (s7.trans u2)⟩
   ·rw[Aq (Ii (u2 _ _ y) (u2 _ _ h7) (by intro z; cases z))]
    exact u2 _ _ y
   ·rw[Aq ntr]
    exact Af
  have h47:=s7 _ _ h6;have lz:=r1.len;have ly:=sq.len;refine⟨st,r,_,_,rfl,rfl,h47,h7,by rw[lz,r2,lx,lun,ly,lS,zCv]; split <;> decide,?_⟩;have S7:Same H1 (upd H7 st (.lst (ys++zs))):=Bj fst (S6.trans s7);have h8:upd H7 st (.lst (ys++zs)) st=some (.lst (ys++zs)):=Af;have kp:∀ t ws,H7 t=some (.tup ws)->upd H7 st (.lst (ys++zs)) t=some (.tup ws):=fun t ws y=>by
   rw[Aq (Ii y h47 (by intro z; cases z))]; exact y
  have tt:∀ t ws,H4 t=some (.tup ws)->upd H7 st (.lst (ys++zs)) t=some (.tup ws):=fun t ws y=>kp _ _ (s7 _ _ (s6 _ _ (s5 _ _ y)));have sq8:Sq9 (upd H7 st (.lst (ys++zs))) (ys++zs) (S++R):=Sq9.app (sq.mono tt) (r1.mono kp);have lu8:LP (upd H7 st (.lst (ys++zs))) u un:=by
   obtain⟨us,y,z⟩:=lu;exact⟨us,by rw[Aq nu]; exact s7 _ _ (s6 _ _ (s5 _ _ y)),z.mono tt⟩
  have lp8:LP (upd H7 st (.lst (ys++zs))) pd un:=⟨xs,by rw[Aq npt]; exact s7 _ _ hpd,pr.mono fun t ws y=>kp _ _ (s7 _ _ y)⟩;generalize upd H7 st (.lst (ys++zs))=H8 at S7 h8 sq8 lu8 lp8;refine (vE rfl (vE rfl ⟨u,pd,un,un,rfl,lu8,lp8,by rw[lun]; split <;> decide,by rw[lun]; split <;> decide,fun r9 H9 s9 nr9 lp9=>?_⟩));have eo:CR.outW un un=[]:=by
   rcases hun with z | z
   ·rw[z]
    simp [CR.outW,CR.leftW,CR.minI,CR.maxI]
    lia
   ·rw[z]
    rfl
  rw[eo] at lp9;refine Dt [some (.ref b),some cp,some (.ref l),some (.int c),some (.ref ak),some (.ref r9),some (.ref st),some (.ref x.p),some (.ref pd),none] rfl ?_;refine⟨⟨r9,_,_,rfl,(Ap h8 nr9).symm,by rw[if_neg (by lia)]; exact lp9⟩,⟨_,_,s9 _ _ h8,sq8.mono (Es s9),?_⟩,S7.trans s9⟩;rw[zAi,lS,r2,lx,lun];by_cases z:i=0
  ·rw[if_pos z,if_pos z,if_neg (by lia)]
  ·rw[if_neg z,if_neg z,if_neg (by lia)]
 ·rintro σ H4 ⟨⟨u,o7,o8,rfl,nu,lu⟩,⟨ys,S,h4,sq,lS⟩,S4⟩
  have lpos:0<as.length:=by rw[eas]; exact Nat.succ_pos _
  rw[zAb,if_neg (by lia)] at lu lS;have x0m:x0∈as:=by rw[eas]; exact zAo
  have cx:=(alla x0 x0m).same S4;have e0:Zb (as.map Sa) 0=some (.ref x0.p):=Uy (j:=0) (by rw[eas]; rfl);refine (vE rfl (vI rfl rfl (SqL.of (S4 _ _ hak)) e0 ?_));refine Dt [some (.ref b),some cp,some (.ref l),some (.int c),some (.ref ak),some (.ref u),some (.ref st),o7,o8,some (.ref x0.p)] rfl ?_;refine (vE rfl ⟨.inl ⟨rfl,_,SqL.of h4⟩,vE rfl (vE rfl (vE rfl (vE rfl ⟨x0,cp,.ref l,rfl,cx,fun nr H5 s5 nnr hnr=>(vE rfl (vE rfl ⟨x0,.ref nr,u,c,rfl,cx.same s5,c0,LP.same s5 lu,fun r6 H6 s6 nr6 h6=>?_⟩))⟩)))⟩);have h46:=s6 _ _ (s5 _ _ h4);have ly:=sq.len;refine⟨st,r6,_,_,rfl,rfl,h46,h6,by rw[ly,lS,zCv]; decide,?_⟩;rw[zAJ];have S7:Same H1 (upd H6 st (.lst ys)):=Bj fst (S4.trans (s5.trans s6));have h7:upd H6 st (.lst ys) st=some (.lst ys):=Af;have sq7:Sq9 (upd H6 st (.lst ys)) ys S:=sq.mono fun t ws y=>by
   rw[Aq (Ii (s6 _ _ (s5 _ _ y)) h46 (by intro z; cases z))];exact s6 _ _ (s5 _ _ y)
  generalize upd H6 st (.lst ys)=H7 at S7 h7 sq7;have tf:TupF K H7 ys (S.map (·.1)):=sq7.tupF;refine (vE rfl ⟨st,ys,S.map (fun s0:Int×Int×Str×Int=>s0.1),rfl,SqL.of h7,by rw[ly,lS]; decide,tf,?_,fun l2 p nl2 _ _=>?_⟩)
  ·match S,lS with
   | [s0],_=>exact List.pairwise_singleton _ _
  ·exact q l2 _ _ (s1.trans (S7.trans (Ai nl2 _))) (s1.free (S7.free nl2)) Af
def Qj (κ:A8) (C CB:Addr):Sp:=fun vs H Q _=>∃ b cs t ca th,∃ fi la cn:Int,vs=[.ref b,.ref t,.int cn]/\BwAt κ C CB H b cs/\(mB cs).length<=60/\H t=some (.tup [.str ca,.str th,.int fi,.int la])/\∀ r th' ca' H',Same H H'->H r=none->H' r=some (.tup [.int 0,.int fi,.str "e",.str th',.str ca',.int cn])->Q (.ref r) H'
def Zl (x:V):Bool:=FO 999999999999 x&&match x with | .int i=>decide (1<=i) | _=>false
def Vd (K:zAa):Sp:=fun vs H Q _=>∃ x T,vs=[x]/\TyOf K H x (.type T)/\Q (.bl (Zl x)) H
def Ve (κ:A8) (C:Addr):Sp:=fun vs H Q _=>∃ x,∃ c:Int,vs=[.ref x.p,.int c]/\CwAt κ C H x/\0<c/\∀ t H',Same H H'->H t=none->H' t=some (.tup [.str x.nm,.int 0,.int c])->Q (.ref t) H'
def Ql (κ:A8) (C CB:Addr):Sp:=fun vs H Q _=>∃ b l cs n d ev th ca,∃ c:Int,vs=[.ref b,.ref l]/\BwAt κ C CB H b cs/\cs.length<=20/\H l=some (.tup [.int n,.int d,.str ev,.str th,.str ca,.int c])/\0<c/\∀ r H',Same H H'->Q (.ref r) H'
theorem B7 {so:Str} {cs:List Cw} {A:List Str} (l6:(mB cs).length<=60) (nd:A.Nodup) (mem:∀ y,y∈A↔V.str y∈Bz so (mB cs)):A.length<=60:=by
 have nd2:(A.map V.str).Nodup:=by
  rw[zBg] at nd ⊢;rw[zBO];exact nd.imp fun n e=>n (V.str.inj e)
 have:=Gf (m:=Bz so (mB cs)) nd2 fun v hv=>by
  obtain⟨y,hy,rfl⟩:=zAR.mp hv;exact (mem y).mp hy
 have w:=Fn so (mB cs);rw[zAb] at this
 lia
theorem A5:Aw ["book", "cell", "cents", "marks", "cause", "thing"] ["book", "cell", "cents"] (Ar Mr):=by injections
theorem A4 {f:Addr} {fd:zCx} (F:Fun K "loss_in" "loss_in" Mr f fd) (T:Txt K mg) (Cmarks_of:Cr P w K mg base 4 "marks_of" ["book"] (Gs (A8.mk Ab Ad Ae Ag Al Am Ac Ak) Ac As)) (Canother:Cr P w K mg base 2 "another" ["names"] Jg):FnOk P w K mg base Da 5 f fd ["book", "cell", "cents"] (Qj (A8.mk Ab Ad Ae Ag Al Am Ac Ak) Ac As):=by
 have sc:=A5;bv_omega
 ·obtain⟨_,_,_,_,_,_,_,_,rfl,_⟩:=h
  rfl
 obtain⟨b,cs,t,ca,th,fi,la,cn,rfl,bw,l6,ht,q⟩:=h;refine⟨_,(Aj (Ba (i:=3) sc.nd rfl (Or.inl rfl) (Av Cmarks_of (hr.mono (by decide)) rfl (Aa (pv 0) Ah)))
   (Aj (Ba (i:=4) sc.nd rfl (Or.inl rfl) (Et (Bd Gg (Be Br (pv 1) Ao (fun _ _=>rfl)) (Fl T.g_ANY_OTHER rfl) (Bf _)) (Av Canother (hr.mono (by decide)) rfl (Aa (Be Br (pv 3) Ao (fun _ _=>rfl)) Ah)) (Be Br (pv 1) Ao (fun _ _=>rfl))))
   (Aj (Ba (i:=5) sc.nd rfl (Or.inl rfl) (Et (Bd Gg (Be Br (pv 1) Ao (fun _ _=>rfl)) (Fl T.g_ANY_OTHER rfl) (Bf _)) (Av Canother (hr.mono (by decide)) rfl (Aa (Be Br (pv 3) Ao (fun _ _=>rfl)) Ah)) (Be Br (pv 1) Ao (fun _ _=>rfl))))
   (An (Az (Cp (Aa Ao (Aa (Be Br (pv 1) Ao (fun _ _=>rfl)) (Aa Dc (Aa (pv 5) (Aa (pv 4) (Aa (pv 2) Ah)))))))))))),?_⟩
 refine (vE rfl ⟨b,cs,rfl,bw,l6,fun mk ma mb mc md A' B' D' E' H1 s1 hmk hma hmb hmc hmd ndA memA ndB memB _ _ _ _=>?_⟩);refine Dt [some (.ref b),some (.ref t),some (.int cn),some (.ref mk),none,none] rfl ?_;have lA:=B7 l6 ndA memA;have lB:=B7 l6 ndB memB;have ht1:=s1 _ _ ht;have fin:∀ (ca' th':Str) (H3:Hp),Same H1 H3->CU (FE (Ge (tC (V.int 0)) (Ge (Z1 (B6 K) (Kz 1) (tC (V.int 2))) (Ge (tC (V.str "e")) (Ge (Kz 5) (Ge (Kz 4) (Ge (Kz 2) Zh))))))) { nx:=fun x H'=>Q V.non H',rt:=Q } [some (.ref b),some (.ref t),some (.int cn),some (.ref mk),some (.str ca'),some (.str th')] H3:=fun ca' th' H3 s3=>by
  refine (vE rfl (vI rfl rfl (SqT.of (s3 _ _ ht1)) rfl (vE rfl (vE rfl (vE rfl ⟨Bk (by show 6<=1000; decide),fun r nr=>?_⟩)))));exact q r th' ca' _ (s1.trans (s3.trans (Ai nr _))) (s1.free (s3.free nr)) Af
 have thing:∀ (ca':Str) (H2:Hp),Same H1 H2->G7 (W4 (JG (R5 (Z1 JK (Z1 (B6 K) (Kz 1) (tC (V.int 1))) (tC (V.str "")))) (Q5 Jg [] E0 (Ge (Z1 (B6 K) (Kz 3) (tC (V.int 1))) Zh)) (Z1 (B6 K) (Kz 1) (tC (V.int 1)))) (Df 5)) (CU (FE (Ge (tC (V.int 0)) (Ge (Z1 (B6 K) (Kz 1) (tC (V.int 2))) (Ge (tC (V.str "e")) (Ge (Kz 5) (Ge (Kz 4) (Ge (Kz 2) Zh)))))))) { nx:=fun x H'=>Q V.non H',rt:=Q } [some (.ref b),some (.ref t),some (.int cn),some (.ref mk),some (.str ca'),none] H2:=fun ca' H2 s2=>by
  refine (vE rfl (vI rfl rfl (SqT.of (s2 _ _ ht1)) rfl ⟨rfl,_,rfl,?_⟩));by_cases e:V.str th=V.str ""
  ·refine dT e (vE rfl (vI rfl rfl (SqT.of (s2 _ _ hmk)) rfl ?_))
   exact⟨mb,B',rfl,s2 _ _ hmb,lB,fun n H4 s4 _ _ _=>fin ca' _ H4 (s2.trans s4)⟩
  ·refine dF e (vE rfl (vI rfl rfl (SqT.of (s2 _ _ ht1)) rfl ?_))
   exact fin ca' th H2 s2
 refine (vE rfl (vI rfl rfl (SqT.of ht1) rfl ⟨rfl,_,rfl,?_⟩));by_cases e:V.str ca=V.str ""
 ·refine dT e (vE rfl (vI rfl rfl (SqT.of hmk) rfl ?_))
  exact⟨ma,A',rfl,hma,lA,fun n H4 s4 _ _ _=>thing _ H4 s4⟩
 ·refine dF e (vE rfl (vI rfl rfl (SqT.of ht1) rfl ?_))
  exact thing ca H1 (fun _ _ h=>h)
theorem Yb:Aw ["thing"] ["thing"] (Ar Ka):=by injections
theorem Xe {f:Addr} {fd:zCx} (F:Fun K "is_bound" "is_bound" Ka f fd) (T:Txt K mg) (Cis_amount:Cr P w K mg base 2 "is_amount" ["thing"] (Y4 K 999999999999)):FnOk P w K mg base Da 3 f fd ["thing"] (Vd K):=by
 have sc:=Yb;bv_omega
 ·obtain⟨_,_,rfl,_⟩:=h
  rfl
 obtain⟨x,ty,rfl,hty,q⟩:=h;refine⟨_,(An (Az (Qt (Av Cis_amount (hr.mono (by decide)) rfl (Aa (pv 0) Ah)) (Qv (Eh FT (pv 0) Ao (Bf _)))))),?_⟩;unfold Zl at q;refine (vE rfl ⟨x,_,rfl,hty,_,rfl,?_⟩);cases eb:FO 999999999999 x with
 | false=>
  rw[eb,Bool.false_and] at q;exact Dk q
 | true=>
  rw[eb,Bool.true_and] at q;cases x with
  | int i=>exact Jr (vE rfl (vF rfl rfl q))
  | _=>cases eb
theorem Yc:Aw ["cover", "cents", "fresh", "window", "rest", "upto"] ["cover", "cents"] (Ar Kr):=by injections
theorem Yj {f:Addr} {fd:zCx} (F:Fun K "claim_of" "claim_of" Kr f fd) (T:Txt K mg) (L:Kl K mg Ab Ad Ae Ag Al Ak Am Ac As At) (Mwindow:Il P w K mg base 2 Ac "window" ["self", "counts", "cents"] (Va (A8.mk Ab Ad Ae Ag Al Am Ac Ak) Ac)) (Mrest:Il P w K mg base 1 Ac "rest" ["self", "counts"] (Lo (A8.mk Ab Ad Ae Ag Al Am Ac Ak) Ac)):FnOk P w K mg base Da 3 f fd ["cover", "cents"] (Ve (A8.mk Ab Ad Ae Ag Al Am Ac Ak) Ac):=by
 have sc:=Yc;bv_omega
 ·obtain⟨_,_,rfl,_⟩:=h
  rfl
 obtain⟨x,c,rfl,cx,c0,q⟩:=h;obtain⟨dx,fs,cv,cl,e,a1,a2,a3,a4,a5,a6,a7,a8⟩:=id cx;refine⟨_,(Aj (Cs (NC:=["clause"]) (own:=["clause"]) (cs:=[]) (ix:=[]) (j:=2) sc.nd rfl rfl rfl (CompScope.of rfl) rfl trivial (Bg (Cc (pv 0) rfl)) (fun _ _ _=>(Ax (i:=0) (show (["clause"]:List Str).Nodup from by ac_nf) rfl (Or.inl rfl))) (fun _ _ _=>By) (fun _ _ _=>Ao))
   (Aj (Ba (i:=3) sc.nd rfl (Or.inl rfl) (Dp Mwindow (hr.mono (by decide)) (pv 0) (Aa (pv 2) (Aa (pv 1) Ah))))
   (Aj (Ba (i:=4) sc.nd rfl (Or.inl rfl) (Dp Mrest (hr.mono (by decide)) (pv 0) (Aa (pv 2) Ah)))
   (Aj (Ba (i:=5) sc.nd rfl (Or.inl rfl) (Et (Bd Qq (pv 4) Gb (Bf _)) (Be Br (pv 3) Ao (fun _ _=>rfl)) (Bb (Je rfl) rfl T.n_min (show zCw _=some (.builtin "min") from rfl) (Aa (Be Br (pv 3) Ao (fun _ _=>rfl)) (Aa (Bc Bw (Be Br (pv 3) Ao (fun _ _=>rfl)) (Be Br (pv 4) Ao (fun _ _=>rfl))) Ah)))))
   (An (Az (Cp (Aa (Cc (pv 0) rfl) (Aa (Be Br (pv 3) Ao (fun _ _=>rfl)) (Aa (pv 5) Ah)))))))))),?_⟩
 refine (vE rfl ⟨x.p,Ac,dx,fs,_,rfl,e,L.cl_Cover,L.na_Cover_clauses,a3,cl,rfl,⟨_,SqL.of a8⟩,fun fr nfr=>?_⟩);refine Bo (K:=K) (a:=cl) (xs:=[]) (fun i ys H2=>ys=[]/\H2 fr=some (.lst [])/\Same H H2) ⟨rfl,Af,Ai nfr _⟩ (fun i ys H2 _ ⟨e,h1,s2⟩=>⟨by rw[e]; exact h1,by rw[e]; exact zAk _,SqL.of (s2 _ _ a8)⟩) (zAk _) (fun i y ys H2 hi=>by simp at hi) (fun ys H2 ⟨e2,h2,s2⟩=>?_);refine Dt [some (.ref x.p),some (.int c),some (.ref fr),none,none,none] rfl ?_;refine (vE rfl ⟨x.p,dx,fs,rfl,s2 _ _ e,a5.2.2.1,vE rfl (vE rfl ⟨x,.ref fr,c,rfl,cx.same s2,c0,fun t H3 s3 nt ht=>?_⟩)⟩);refine Dt [some (.ref x.p),some (.int c),some (.ref fr),some (.ref t),none,none] rfl ?_;have S3:=s2.trans s3;refine (vE rfl ⟨x.p,dx,fs,rfl,S3 _ _ e,a5.2.2.2.2,vE rfl ⟨x,.ref fr,rfl,cx.same S3,fun H4 s4=>?_⟩⟩);refine Dt [some (.ref x.p),some (.int c),some (.ref fr),some (.ref t),some .non,none] rfl ?_;have ht4:=s4 _ _ ht;have S4:=S3.trans s4;refine (vE rfl ⟨rfl,vE rfl (dT rfl (vE rfl (vI rfl rfl (SqT.of ht4) rfl ?_)))⟩);refine Dt [some (.ref x.p),some (.int c),some (.ref fr),some (.ref t),some .non,some (.int c)] rfl ?_;refine (vE rfl ⟨x.p,Ac,dx,fs,_,rfl,S4 _ _ e,L.cl_Cover,L.na_Cover_name,a1,vE rfl (vI rfl rfl (SqT.of ht4) rfl (vE rfl ⟨Bk (by show 3<=1000; decide),fun r nr=>?_⟩))⟩);exact q r _ (S4.trans (Ai nr _)) (S4.free nr) Af
theorem Ue:Aw ["book", "loss", "firm", "claims"] ["book", "loss"] (Ar Ir):=by injections
theorem Tz {f:Addr} {fd:zCx} (F:Fun K "claims_of" "claims_of" Ir f fd) (T:Txt K mg) (L:Kl K mg Ab Ad Ae Ag Al Ak Am Ac As At) (Masks:Il P w K mg base 3 Ac "asks" ["self", "loss"] (Oj (A8.mk Ab Ad Ae Ag Al Am Ac Ak) Ac)) (Cclaim_of:Cr P w K mg base 3 "claim_of" ["cover", "cents"] (Ve (A8.mk Ab Ad Ae Ag Al Am Ac Ak) Ac)):FnOk P w K mg base Da 4 f fd ["book", "loss"] (Ql (A8.mk Ab Ad Ae Ag Al Am Ac Ak) Ac As):=by
 have sc:=Ue;bv_omega
 ·obtain⟨_,_,_,_,_,_,_,_,_,rfl,_⟩:=h
  rfl
 obtain⟨b,l,cs,n,d,ev,th,ca,c,rfl,⟨dx,fs,cl,ak,e,a1,a2,hcl,hak,all⟩,l20,hl,c0,q⟩:=h;refine⟨_,(Aj (Cs (NC:=["cover", "loss"]) (own:=["cover"]) (cs:=["loss"]) (ix:=[1]) (j:=2) sc.nd rfl rfl rfl (CompScope.of rfl) rfl ⟨⟨rfl,.inl rfl,rfl⟩,trivial⟩ (Bg (Cc (pv 0) rfl)) (fun _ _ _=>(Ax (i:=0) (show (["cover", "loss"]:List Str).Nodup from by ac_nf) rfl (Or.inl rfl))) (fun _ _ _=>(Ef (PW.pt (Uz (Fv (Dw (Jc (K:=K) (pv 0) rfl))) (Om (Dw (Dp Masks (hr.mono (by decide)) (pv 0) (Aa (pv 1) Ah)))))))) (fun _ _ _=>(pv 0)))
   (Aj (Cs (NC:=["cover", "loss"]) (own:=["cover"]) (cs:=["loss"]) (ix:=[1]) (j:=3) sc.nd rfl rfl rfl (CompScope.of rfl) rfl ⟨⟨rfl,.inl rfl,rfl⟩,trivial⟩ (Bg (pv 2)) (fun _ _ _=>(Ax (i:=0) (show (["cover", "loss"]:List Str).Nodup from by ac_nf) rfl (Or.inl rfl))) (fun _ _ _=>By) (fun _ _ _=>(Av Cclaim_of (hr.mono (by decide)) rfl (Aa (pv 0) (Aa (Be (Db (K:=K) rfl) (pv 1) (Cu T.g_CENTS rfl) (fun _ _=>rfl)) Ah)))))
   (An (Az (Cj (NC:=["claim"]) (own:=["claim"]) (cs:=[]) (ix:=[]) rfl (CompScope.of rfl) rfl trivial (Bg (pv 3)) (fun _ _ _=>(Ax (i:=0) (show (["claim"]:List Str).Nodup from by ac_nf) rfl (Or.inl rfl))) (fun _ _ _=>(Ef (Bd Hx (Be (Db (K:=K) rfl) (pv 0) Ao (fun _ _=>rfl)) (Be (Db (K:=K) rfl) (pv 0) Ao (fun _ _=>rfl)) (Bf _)))) (fun _ _ _=>(pv 0))))))),?_⟩
 have lm:(cs.map Sa).length=cs.length:=zAb _;refine (vE rfl ⟨b,As,dx,fs,_,rfl,e,L.cl_Book,L.na_Book_covers,a1,cl,rfl,⟨_,SqL.of hcl⟩,fun r nr=>?_⟩);refine Bo (K:=K) (a:=cl) (xs:=cs.map Sa) (fun i ys H2=>(∃ xs:List Cw,ys=xs.map Sa/\xs.length<=i/\∀ x∈xs,x∈cs)/\H2 r=some (.lst ys)/\Same H H2) ⟨⟨[],rfl,zAf _,fun _ hx=>absurd hx zBf⟩,Af,Ai nr _⟩
  (fun i ys H2 _ ⟨⟨xs,e2,l2,_⟩,h1,s2⟩=>⟨h1,by rw[e2,zAb]; exact l2,SqL.of (s2 _ _ hcl)⟩) (by rw[zCv]; lia) (fun i v ys H2 hi ⟨⟨xs,e2,l2,m2⟩,h1,s2⟩=>?_) (fun ys H2 ⟨⟨xs,e2,l2,m2⟩,h1,s2⟩=>?_)
 ·rw[zAu] at hi
  obtain⟨x,hx,rfl⟩:=zAD.mp hi;have mx:=zAB hx;have cx:=(all x mx).same s2;obtain⟨d2,f2,_,_,e3,_,_,_,w4,n5,_⟩:=id cx;have keep:(∃ zs:List Cw,ys=zs.map Sa/\zs.length<=i+1/\∀ x∈zs,x∈cs):=⟨xs,e2,Nat.le_succ_of_le l2,m2⟩;have more:(∃ zs:List Cw,ys++[Sa x]=zs.map Sa/\zs.length<=i+1/\∀ x∈zs,x∈cs):=⟨xs++[x],by rw[e2,zAz]; rfl,by rw[zAi]; exact Nat.succ_le_succ l2,fun y hy=>by
   rcases zAy.mp hy with h | h
   ·exact m2 y h
   ·rw[zAg.mp h]
    exact mx⟩
  refine (vE rfl ⟨x.p,Ac,d2,f2,_,rfl,e3,L.cl_Cover,L.na_Cover_waits,w4,_,rfl,?_⟩);cases ew:x.wt with
  | true=>exact Dk (Dk ⟨rfl,keep,h1,s2⟩)
  | false=>
   refine Jr (vE rfl ⟨x.p,d2,f2,rfl,e3,n5.1,_,rfl,x,l,⟨d,th,ca,c⟩,rfl,cx,⟨ev,n,s2 _ _ hl⟩,_,rfl,?_⟩);cases cw:hT x.t ⟨d,th,ca,c⟩ with
   | false=>exact Dk ⟨rfl,keep,h1,s2⟩
   | true=>exact Jr (vE rfl ⟨h1,rfl,more,Af,Bj nr s2⟩)
 ·subst e2
  rw[lm] at l2;refine Dt [some (.ref b),some (.ref l),some (.ref r),none] rfl ?_;have lx:(xs.map Sa).length=xs.length:=zAb _;refine (vE rfl ⟨r,rfl,⟨_,SqL.of h1⟩,fun r2 nr2=>?_⟩);refine Bo (K:=K) (a:=r) (xs:=xs.map Sa) (fun i ys H3=>(ys.length=i/\∀ v∈ys,∃ t nm,v = .ref t/\t≠r2/\H3 t=some (.tup [.str nm,.int 0,.int c]))/\H3 r2=some (.lst ys)/\Same H2 H3) ⟨⟨rfl,fun _ hx=>absurd hx zBf⟩,Af,Ai nr2 _⟩
   (fun i ys H3 _ ⟨⟨l3,_⟩,h3,s3⟩=>⟨h3,zBP l3,SqL.of (s3 _ _ h1)⟩) (by rw[zCv]; lia) (fun i v ys H3 hi ⟨⟨l3,m3⟩,h3,s3⟩=>?_) (fun ys H3 ⟨⟨l3,m3⟩,h3,s3⟩=>?_)
  ·rw[zAu] at hi
   obtain⟨x,hx,rfl⟩:=zAD.mp hi;have cx:=(all x (m2 x (zAB hx))).same (s2.trans s3);refine (vE rfl (vE rfl (vI rfl rfl (SqT.of (s3 _ _ (s2 _ _ hl))) rfl ⟨x,c,rfl,cx,c0,fun t H4 s4 nt ht=>?_⟩)));have nt2:t≠r2:=fun e=>by rw[e,h3] at nt; cases nt
   refine⟨s4 _ _ h3,rfl,⟨by rw[zAi,l3]; rfl,fun v hv=>?_⟩,Af,Bj nr2 (s3.trans s4)⟩;rcases zAy.mp hv with h | h
   ·obtain⟨t',nm,e,ne,ht'⟩:=m3 v h
    exact⟨t',nm,e,ne,by rw[Aq ne]; exact s4 _ _ ht'⟩
   ·exact⟨t,x.nm,zAg.mp h,nt2,by rw[Aq nt2]; exact ht⟩
  ·refine Dt [some (.ref b),some (.ref l),some (.ref r),some (.ref r2)] rfl ?_
   refine (vE rfl ⟨r2,rfl,⟨_,SqL.of h3⟩,fun r3 nr3=>?_⟩);refine Bo (K:=K) (a:=r2) (xs:=ys) (fun i zs H4=>zs.length<=i/\H4 r3=some (.lst zs)/\Same H3 H4) ⟨zAf _,Af,Ai nr3 _⟩
    (fun i zs H4 _ ⟨l4,h4,s4⟩=>⟨h4,l4,SqL.of (s4 _ _ h3)⟩) (by rw[zCv,l3]; lia) (fun i v zs H4 hi ⟨l4,h4,s4⟩=>?_) (fun zs H4 ⟨l4,h4,s4⟩=>q r3 H4 (s2.trans (s3.trans s4)))
   obtain⟨t,nm,rfl,ne,ht⟩:=m3 v (zAB hi);have ht4:=SqT.of (K:=K) (s4 _ _ ht);refine (vE rfl (vI rfl rfl ht4 rfl (vE rfl (vI rfl rfl ht4 rfl (vF rfl rfl (vE rfl (dT c0 (vE rfl ⟨h4,rfl,by rw[zAi]; exact Nat.succ_le_succ l4,Af,Bj nr3 s4⟩))))))))
def Q0 (κ:A8) (C CB:Addr):Sp:=fun vs H Q _=>∃ b cs t ca th,∃ fi la lo hi:Int,vs=[.ref b,.ref t,.int lo,.int hi]/\BwAt κ C CB H b cs/\(mB cs).length<=60/\cs.length<=20/\H t=some (.tup [.str ca,.str th,.int fi,.int la])/\0<hi/\∀ r H',Same H H'->Q (.ref r) H'
theorem G6:Aw ["book", "cell", "lo", "hi", "loss"] ["book", "cell", "lo", "hi"] (Ar Pj):=by injections
theorem N0 {f:Addr} {fd:zCx} (F:Fun K "row_of" "row_of" Pj f fd) (T:Txt K mg) (KCounts:Gw P w K mg base 1 "Counts" At ["self"] (P8 At)) (Closs_in:Cr P w K mg base 5 "loss_in" ["book", "cell", "cents"] (Qj (A8.mk Ab Ad Ae Ag Al Am Ac Ak) Ac As)) (Cstrips_of:Cr P w K mg base 5 "strips_of" ["book", "counts", "loss"] (Mg (A8.mk Ab Ad Ae Ag Al Am Ac Ak) Ac As)) (Cclaims_of:Cr P w K mg base 4 "claims_of" ["book", "loss"] (Ql (A8.mk Ab Ad Ae Ag Al Am Ac Ak) Ac As)):FnOk P w K mg base Da 6 f fd ["book", "cell", "lo", "hi"] (Q0 (A8.mk Ab Ad Ae Ag Al Am Ac Ak) Ac As):=by
 have sc:=G6;bv_omega
 ·obtain⟨_,_,_,_,_,_,_,_,_,rfl,_⟩:=h
  rfl
 obtain⟨b,cs,t,ca,th,fi,la,lo,hi,rfl,bw,l6,l20,ht,h0,q⟩:=h;refine⟨_,(Aj (Ba (i:=4) sc.nd rfl (Or.inl rfl) (Av Closs_in (hr.mono (by decide)) rfl (Aa (pv 0) (Aa (pv 1) (Aa (pv 3) Ah)))))
   (An (Az (Cp (Aa (pv 1) (Aa (pv 2) (Aa (pv 3) (Aa (Av Cstrips_of (hr.mono (by decide)) rfl (Aa (pv 0) (Aa (M4 KCounts (hr.mono (by decide)) rfl) (Aa (pv 4) Ah)))) (Aa (Av Cclaims_of (hr.mono (by decide)) rfl (Aa (pv 0) (Aa (pv 4) Ah))) Ah))))))))),?_⟩
 refine (vE rfl (vE rfl (vE rfl ⟨b,cs,t,ca,th,fi,la,hi,rfl,bw,l6,ht,fun l th' ca' H1 s1 nl hl=>?_⟩)));refine Dt [some (.ref b),some (.ref t),some (.int lo),some (.int hi),some (.ref l)] rfl ?_;refine (vE rfl (vE rfl (vE rfl (vE rfl ?_))));refine fun p dx np nd ne=>⟨p,dx,rfl,Af,fun kp H2 k2 _ _=>⟨rfl,?_⟩⟩;have s2:Same H1 H2:=fun x o e=>k2 x o (by rw[Aq (Ap e np),Aq (Ap e nd)]; exact e) (Ap e np);refine (vE rfl ⟨b,.ref p,l,cs,0,fi, "e",th',ca',hi,rfl,bw.same (s1.trans s2),l20,s2 _ _ hl,h0,fun r ys H3 s3 nr hr3=>?_⟩);have s13:=s2.trans s3;refine (vE rfl (vE rfl ⟨b,l,cs,0,fi, "e",th',ca',hi,rfl,bw.same (s1.trans s13),l20,s13 _ _ hl,h0,fun r4 H4 s4=>?_⟩));refine⟨Bk (by show 5<=1000; decide),fun r5 nr5=>?_⟩;exact q r5 _ (s1.trans (s13.trans (s4.trans (Ai nr5 _))))
def BU (P:Int->Int->Prop) (H H':Hp) (r:Addr) (n:Nat):Prop:=∃ ts:List Addr,ts.length=n/\H' r=some (.lst (ts.map V.ref))/\∀ t∈ts,∃ fi la:Int,P fi la/\H t=none/\H' t=some (.tup [.int fi,.int la])
def Yz:Sp:=fun vs H Q _=>∃ d,∃ ds:List Int,vs=[.ref d]/\H d=some (.lst (ds.map V.int))/\ds.length<=60/\∀ r H',H r=none->Same H H'->BU (fun _ _=>True) H H' r (ds.length+1)->Q (.ref r) H'
theorem Mi:Aw ["days", "firsts", "lasts"] ["days"] (Ar Ey):=by injections
theorem Lw {f:Addr} {fd:zCx} (F:Fun K "day_stretches" "day_stretches" Ey f fd) (T:Txt K mg):FnOk P w K mg base Da 1 f fd ["days"] Yz:=by
 have sc:=Mi;bv_omega
 ·obtain⟨_,_,rfl,_⟩:=h
  rfl
 obtain⟨d,ds,rfl,hd,l6,q⟩:=h;refine⟨_,(Aj (Ba (i:=1) sc.nd rfl (Or.inl rfl) (Bc Hr (Bp (Aa Ao Ah)) (pv 0)))
   (Aj (Ba (i:=2) sc.nd rfl (Or.inl rfl) (Bc Hr (Cj (NC:=["day"]) (own:=["day"]) (cs:=[]) (ix:=[]) rfl (CompScope.of rfl) rfl trivial (Bg (pv 0)) (fun _ _ _=>(Ax (i:=0) (show (["day"]:List Str).Nodup from by ac_nf) rfl (Or.inl rfl))) (fun _ _ _=>By) (fun _ _ _=>(Bc Ic (pv 0) Ao))) (Bp (Aa (Cu T.g_LAST_DAY rfl) Ah))))
   (An (Az (Qg rfl T.n_list rfl T.n_zip (Aa (pv 1) (Aa (pv 2) Ah))))))),?_⟩
 have sl:=zCv;have lm:(ds.map V.int).length=ds.length:=zAb _;refine⟨Bk (by show 1<=1000; decide),fun o1 n1=>vE rfl ?_⟩;have s1:=Ai n1 (.lst [.int 0]);refine⟨o1,d,_,_,rfl,rfl,Af,s1 _ _ hd,by rw[lm]; show 1+_<=_; lia,fun a na=>?_⟩;refine Dt [some (.ref d),some (.ref a),none] rfl ?_;have s2:=s1.trans (Ai na (.lst ([.int 0]++ds.map V.int)));have ha:upd (upd H o1 (.lst [.int 0])) a (.lst ([.int 0]++ds.map V.int)) a=some (.lst ((0::ds).map V.int)):=Af;generalize upd (upd H o1 (.lst [.int 0])) a (.lst ([.int 0]++ds.map V.int))=H2 at s2 ha;refine (vE rfl ⟨d,rfl,⟨_,SqL.of (s2 _ _ hd)⟩,fun r nr=>?_⟩);refine Bo (K:=K) (a:=d) (xs:=ds.map V.int) (fun i ys H3=>ys=((ds.take i).map (· - 1)).map V.int/\H3 r=some (.lst ys)/\Same H2 H3) ⟨rfl,Af,Ai nr _⟩
  (fun i ys H3 hi ⟨e,h1,s3⟩=>⟨h1,by rw[e,zAb,zAb,zAK]; lia,SqL.of (s3 _ _ (s2 _ _ hd))⟩) (by rw[lm]; lia) (fun i v ys H3 hi ⟨e,h1,s3⟩=>?_) (fun ys H3 ⟨e,h1,s3⟩=>?_)
 ·rw[zAu] at hi
  obtain⟨x,hx,rfl⟩:=zAD.mp hi;refine (vE rfl (vF rfl rfl ⟨h1,rfl,?_,Af,Bj nr s3⟩));rw[Dd hx,zAz,zAz,e];rfl
 ·rw[lm,zAO] at e
  subst e;refine⟨Bk (by show 1<=1000; decide),fun o2 n2=>?_⟩;have s4:=s3.trans (Ai n2 (.lst [.int 1000000]));have h4:=Ai n2 (.lst [.int 1000000]) _ _ h1;refine⟨r,o2,_,_,rfl,rfl,h4,Af,by rw[zAb,zAb]; show _+1<=_; lia,fun b nb=>?_⟩;refine Dt [some (.ref d),some (.ref a),some (.ref b)] rfl ?_;have s5:=s4.trans (Ai nb (.lst ((ds.map (· - 1)).map V.int++[.int 1000000])));have hb:upd (upd H3 o2 (.lst [.int 1000000])) b (.lst ((ds.map (· - 1)).map V.int++[.int 1000000])) b=some (.lst ((ds.map (· - 1)++[1000000]).map V.int)):=by rw[Af,zAz]; rfl
  generalize upd (upd H3 o2 (.lst [.int 1000000])) b (.lst ((ds.map (· - 1)).map V.int++[.int 1000000]))=H5 at s5 hb;refine (vE rfl (vE rfl ⟨a,b,_,_,rfl,SqL.of (s5 _ _ ha),SqL.of hb,fun z ts H6 nz s6 lt hz im=>?_⟩));have S:=s2.trans s5;refine q z H6 (S.free nz) (S.trans s6) ⟨ts,by rw[lt]; simp,hz,fun t ht=>?_⟩;obtain⟨j,hj⟩:=List.getElem?_of_mem ht;obtain⟨x,y,hx,hy,nt,h6⟩:=im j t hj;rw[zAu] at hx hy;obtain⟨x',_,rfl⟩:=zAD.mp hx;obtain⟨y',_,rfl⟩:=zAD.mp hy;exact⟨x',y',trivial,S.free nt,h6⟩
theorem GS {so:Str} {cs:List Cw} {A:List Int} (l6:(mB cs).length<=60) (pw:A.Pairwise (· < ·)) (mem:∀ y,y∈A↔V.int y∈Bz so (mB cs)):A.length<=60:=by
 have nd2:(A.map V.int).Nodup:=by
  rw[zBg,zBO];exact pw.imp fun n e=>by
   have:=V.int.inj e
   lia
 have:=Gf (m:=Bz so (mB cs)) nd2 fun v hv=>by
  obtain⟨y,hy,rfl⟩:=zAR.mp hv;exact (mem y).mp hy
 have w:=Fn so (mB cs);rw[zAb] at this
 lia
def F3 (κ:A8) (C CB:Addr):Sp:=fun vs H Q _=>∃ b cs,∃ bd:Int,vs=[.ref b,.int bd]/\BwAt κ C CB H b cs/\(mB cs).length<=60/\1<=bd/\∀ r H' (E':List Int),H r=none->Same H H'->E'.Pairwise (· < ·)->(∀ y,y∈E'↔V.int y∈Bz "cents" (mB cs))->BU (fun _ hi=>0<hi) H H' r ((E'.filter fun y=>decide (1<=y/\y<bd)).length+1)->Q (.ref r) H'
theorem Nu:Aw ["book", "bound", "amounts", "firsts"] ["book", "bound"] (Ar Fs):=by injections
theorem Nw {f:Addr} {fd:zCx} (F:Fun K "stretches_of" "stretches_of" Fs f fd) (T:Txt K mg) (Cmarks_of:Cr P w K mg base 4 "marks_of" ["book"] (Gs (A8.mk Ab Ad Ae Ag Al Am Ac Ak) Ac As)):FnOk P w K mg base Da 5 f fd ["book", "bound"] (F3 (A8.mk Ab Ad Ae Ag Al Am Ac Ak) Ac As):=by
 have sc:=Nu;bv_omega
 ·obtain⟨_,_,_,rfl,_⟩:=h
  rfl
 obtain⟨b,cs,bd,rfl,bw,l6,b1,q⟩:=h;refine⟨_,(Aj (Cs (NC:=["amount", "bound"]) (own:=["amount"]) (cs:=["bound"]) (ix:=[1]) (j:=2) sc.nd rfl rfl rfl (CompScope.of rfl) rfl ⟨⟨rfl,.inl rfl,rfl⟩,trivial⟩ (Bg (Be Br (Av Cmarks_of (hr.mono (by decide)) rfl (Aa (pv 0) Ah)) Ao (fun _ _=>rfl))) (fun _ _ _=>(Ax (i:=0) (show (["amount", "bound"]:List Str).Nodup from by ac_nf) rfl (Or.inl rfl))) (fun _ _ _=>(Ef (Wz Ij Hx Ao (pv 0) (pv 1)))) (fun _ _ _=>(pv 0)))
   (Aj (Ba (i:=3) sc.nd rfl (Or.inl rfl) (Bc Hr (Bp (Aa Ao Ah)) (Cj (NC:=["amount"]) (own:=["amount"]) (cs:=[]) (ix:=[]) rfl (CompScope.of rfl) rfl trivial (Bg (pv 2)) (fun _ _ _=>(Ax (i:=0) (show (["amount"]:List Str).Nodup from by ac_nf) rfl (Or.inl rfl))) (fun _ _ _=>By) (fun _ _ _=>(Bc Bw (pv 0) Ao)))))
   (An (Az (Qg rfl T.n_list rfl T.n_zip (Aa (pv 3) (Aa (Bc Hr (pv 2) (Bp (Aa (pv 1) Ah))) Ah))))))),?_⟩
 have sl:=zCv;refine (vE rfl ⟨b,cs,rfl,bw,l6,fun mk ma mb mc md A' B' D' E' H1 s1 hmk hma hmb hmc hmd _ _ _ _ pD memD pE memE=>?_⟩);refine (vI rfl rfl (SqT.of hmk) rfl ⟨md,rfl,⟨_,SqL.of hmd⟩,fun r nr=>?_⟩);have lE:=GS l6 pE memE;have lm:(E'.map V.int).length=E'.length:=zAb _;have fl:(E'.filter fun y=>decide (1<=y/\y<bd)).length<=E'.length:=zAG _ _;refine Bo (K:=K) (a:=md) (xs:=E'.map V.int) (fun i ys H2=>ys=((E'.take i).filter fun y=>decide (1<=y/\y<bd)).map V.int/\H2 r=some (.lst ys)/\Same H1 H2) ⟨rfl,Af,Ai nr _⟩
  (fun i ys H2 hi ⟨e,h1,s2⟩=>⟨h1,by rw[e,zAb]; exact zAA (zAG _ _) (by rw[zAK]; lia),SqL.of (s2 _ _ hmd)⟩) (by rw[lm]; lia) (fun i v ys H2 hi ⟨e,h1,s2⟩=>?_) (fun ys H2 ⟨e,h1,s2⟩=>?_)
 ·rw[zAu] at hi
  obtain⟨x,hx,rfl⟩:=zAD.mp hi;have es:(E'.take (i+1)).filter (fun y=>decide (1<=y/\y<bd))=(E'.take i).filter (fun y=>decide (1<=y/\y<bd))++if 1<=x/\x<bd then [x] else []:=by
   rw[Dd hx,zBv];by_cases c:1<=x/\x<bd
   ·rw[if_pos c,zBA (by exact decide_eq_true c),zBe]
   ·rw[if_neg c,zBB (by rw[decide_eq_false c]; exact zAr),zBe]
  refine (vE rfl (vF rfl rfl (vE rfl ?_)));by_cases c1:1<=x
  ·refine dT c1 (vE rfl (vF rfl rfl (vE rfl ?_)))
   by_cases c2:x<bd
   ·refine dT c2 (vE rfl ⟨h1,rfl,?_,Af,Bj nr s2⟩)
    rw[es,if_pos ⟨c1,c2⟩,zAz,e];rfl
   ·refine dF c2 ⟨rfl,?_,h1,s2⟩
    rw[es,if_neg (fun z=>c2 z.2),zAJ,e]
  ·refine dF c1 (vE rfl (Dk ⟨rfl,?_,h1,s2⟩))
   rw[es,if_neg (fun z=>c1 z.1),zAJ,e]
 ·rw[lm,zAO] at e
  subst e;refine Dt [some (.ref b),some (.int bd),some (.ref r),none] rfl ?_;have pos:∀ y∈E'.filter (fun y=>decide (1<=y/\y<bd)),0<y:=fun y hy=>by
   have:=of_decide_eq_true (zBb.mp hy).2
   lia
  have q2:=fun z H' n1 s'=>q z H' E' n1 s' pE memE;generalize E'.filter (fun y=>decide (1<=y/\y<bd))=L at h1 fl pos q2;have lL:(L.map V.int).length=L.length:=zAb _;refine⟨Bk (by show 1<=1000; decide),fun o1 n1=>?_⟩;have s3:=s2.trans (Ai n1 (.lst [.int 1]));have h3:=Ai n1 (.lst [.int 1]) _ _ h1;have ho:upd H2 o1 (.lst [.int 1]) o1=some (.lst [.int 1]):=Af;generalize upd H2 o1 (.lst [.int 1])=H3 at s3 h3 ho;refine (vE rfl ⟨r,rfl,⟨_,SqL.of h3⟩,fun r2 nr2=>?_⟩);refine Bo (K:=K) (a:=r) (xs:=L.map V.int) (fun i ys H4=>ys=((L.take i).map (· + 1)).map V.int/\H4 r2=some (.lst ys)/\Same H3 H4) ⟨rfl,Af,Ai nr2 _⟩
   (fun i ys H4 hi ⟨e,h4,s4⟩=>⟨h4,by rw[e,zAb,zAb,zAK]; lia,SqL.of (s4 _ _ h3)⟩) (by rw[lL]; lia) (fun i v ys H4 hi ⟨e,h4,s4⟩=>?_) (fun ys H4 ⟨e,h4,s4⟩=>?_)
  ·rw[zAu] at hi
   obtain⟨x,hx,rfl⟩:=zAD.mp hi;refine (vE rfl (vF rfl rfl ⟨h4,rfl,?_,Af,Bj nr2 s4⟩));rw[Dd hx,zAz,zAz,e];rfl
  ·rw[lL,zAO] at e
   subst e;refine⟨o1,r2,_,_,rfl,rfl,s4 _ _ ho,h4,by rw[zAb,zAb]; show 1+_<=_; lia,fun a na=>?_⟩;refine Dt [some (.ref b),some (.int bd),some (.ref r),some (.ref a)] rfl ?_;have s5:=s4.trans (Ai na (.lst ([.int 1]++(L.map (· + 1)).map V.int)));have ha:upd H4 a (.lst ([.int 1]++(L.map (· + 1)).map V.int)) a=some (.lst ((1::L.map (· + 1)).map V.int)):=Af;generalize upd H4 a (.lst ([.int 1]++(L.map (· + 1)).map V.int))=H5 at s5 ha;refine (vE rfl (vE rfl (vE rfl ?_)));refine⟨Bk (by show 1<=1000; decide),fun o2 n2=>?_⟩;have s6:=s5.trans (Ai n2 (.lst [.int bd]));refine⟨r,o2,_,_,rfl,rfl,s6 _ _ h3,Af,by rw[lL]; show _+1<=_; lia,fun c nc=>?_⟩;have s7:=s6.trans (Ai nc (.lst (L.map V.int++[.int bd])));have hc:upd (upd H5 o2 (.lst [.int bd])) c (.lst (L.map V.int++[.int bd])) c=some (.lst ((L++[bd]).map V.int)):=by rw[Af,zAz]; rfl
   have ha7:=Ai nc (.lst (L.map V.int++[.int bd])) _ _ (Ai n2 (.lst [.int bd]) _ _ ha);generalize upd (upd H5 o2 (.lst [.int bd])) c (.lst (L.map V.int++[.int bd]))=H7 at s7 hc ha7;refine⟨a,c,_,_,rfl,SqL.of ha7,SqL.of hc,fun z ts H8 nz s8 lt hz im=>?_⟩;have S:=s1.trans (s3.trans s7);refine q2 z H8 (S.free nz) (S.trans s8) ⟨ts,by rw[lt]; simp,hz,fun t ht=>?_⟩;obtain⟨j,hj⟩:=List.getElem?_of_mem ht;obtain⟨x,y,hx,hy,nt,h8⟩:=im j t hj;rw[zAu] at hx hy;obtain⟨x',_,rfl⟩:=zAD.mp hx;obtain⟨y',ey,rfl⟩:=zAD.mp hy;refine⟨x',y',?_,S.free nt,h8⟩;rcases zAy.mp (zAB ey) with h | h
   ·exact pos _ h
   ·rw[zAg.mp h]
    show (0:Int)<bd
    lia
end
def Wd (cs:List Cw) (n:Nat):Prop:=∀ (A B:List Str) (D:List Int),A.Nodup->(∀ y,y∈A↔V.str y∈Bz "cause" (mB cs))->B.Nodup->(∀ y,y∈B↔V.str y∈Bz "thing" (mB cs))->D.Pairwise (· < ·)->(∀ y,y∈D↔(V.int y∈Bz "day" (mB cs)/\1<=y/\y<=1000000))->(A.length+1)*(B.length+1)*(D.length+1)=n
def Ws (cs:List Cw) (bd:Int) (n:Nat):Prop:=∀ E:List Int,E.Pairwise (· < ·)->(∀ y,y∈E↔V.int y∈Bz "cents" (mB cs))->(E.filter fun y=>decide (1<=y/\y<bd)).length=n
def CellsIn (H:Hp) (r:Addr) (n:Nat):Prop:=∃ ts:List Addr,ts.length=n/\H r=some (.lst (ts.map V.ref))/\∀ t∈ts,∃ (ca th:Str) (fi la:Int),H t=some (.tup [.str ca,.str th,.int fi,.int la])
theorem CellsIn.same {H H':Hp} {r:Addr} {n:Nat} (h:CellsIn H r n) (s:Same H H'):CellsIn H' r n:=by
 obtain⟨ts,l,h1,h2⟩:=h;refine⟨ts,l,s _ _ h1,fun t ht=>?_⟩;obtain⟨c1,c2,c3,c4,h⟩:=h2 t ht;exact⟨c1,c2,c3,c4,s _ _ h⟩
theorem C6 {H:Hp} {t p:Addr} {xs ys:List V} (h:H t=some (.tup xs)) (hp:H p=some (.lst ys)):t≠p:=fun e=>by
 rw[e,hp] at h;cases h
theorem B0 {H:Hp} {cl:Addr} {n k:Nat} {ts us:List Addr} {xs:List V} (hc:H cl=some (.lst xs)) (l1:ts.length=n) (l2:us.length=k) (h1:∀ t∈ts,∃ (ca th:Str) (fi la:Int),H t=some (.tup [.str ca,.str th,.int fi,.int la])) (h2:∀ t∈us,∃ (ca th:Str) (fi la:Int),H t=some (.tup [.str ca,.str th,.int fi,.int la])):CellsIn (upd H cl (.lst (ts.map V.ref++us.map V.ref))) cl (n+k):=by
 refine⟨ts++us,by rw[zAi,l1,l2],by rw[Af,zAz],fun t ht=>?_⟩;have go:∃ (ca th:Str) (fi la:Int),H t=some (.tup [.str ca,.str th,.int fi,.int la]):=by
  rcases zAy.mp ht with h | h
  ·exact h1 t h
  ·exact h2 t h
 obtain⟨c1,c2,c3,c4,h⟩:=go;exact⟨c1,c2,c3,c4,by rw[Aq (C6 h hc)]; exact h⟩
theorem Xa {H:Hp} {o1 a:Addr} {xs ys:List V} (n1:H o1=none) (na:upd H o1 (.lst ys) a=none):Same H (upd (upd H o1 (.lst ys)) a (.lst (xs++ys)))/\upd (upd H o1 (.lst ys)) a (.lst (xs++ys)) a=some (.lst (xs++ys)):=⟨(Ai n1 _).trans (Ai na _),Af⟩
theorem strs_at {A:List Str} {i:Nat} {x:V} (h:(A.map V.str++[V.str ""])[i]?=some x):∃ z,x = .str z:=by
 rcases zAy.mp (zAB h) with h | h
 ·obtain⟨z,_,rfl⟩:=zAR.mp h
  exact⟨z,rfl⟩
 ·exact⟨_,zAg.mp h⟩
def Jd (κ:A8) (C CB Ct:Addr):Sp:=fun vs H Q E=>∃ b cs,∃ n:Nat,vs=[.ref b]/\BwAt κ C CB H b cs/\(mB cs).length<=60/\Wd cs n/\((120<n/\∀ H',Same H H'->E (.ref Ct) none H')\/(n<=120/\∀ r H',Same H H'->CellsIn H' r n->Q (.ref r) H'))
theorem DC {so:Str} {cs:List Cw} {A:List Int} (l6:(mB cs).length<=60) (pw:A.Pairwise (· < ·)) (mem:∀ y,y∈A↔(V.int y∈Bz so (mB cs)/\1<=y/\y<=1000000)):A.length<=60:=by
 have nd2:(A.map V.int).Nodup:=by
  rw[zBg,zBO];exact pw.imp fun n e=>by
   have:=V.int.inj e
   lia
 have:=Gf (m:=Bz so (mB cs)) nd2 fun v hv=>by
  obtain⟨y,hy,rfl⟩:=zAR.mp hv;exact ((mem y).mp hy).1
 have w:=Fn so (mB cs);rw[zAb] at this
 lia
theorem EB {i:Int} (h:Zl (.int i)=true):1<=i:=by
 unfold Zl at h;exact of_decide_eq_true (Bool.and_eq_true_iff.mp h).2
def Ky (K:zAa) (κ:A8) (C CB Cn Ct:Addr):Sp:=fun vs H Q E=>∃ b cs x T,vs=[.ref b,x]/\TyOf K H x (.type T)/\BwAt κ C CB H b cs/\(mB cs).length<=60/\cs.length<=20 /\
 ((Zl x=false/\∀ H',Same H H'->E (.ref Cn) none H')\/∃ bd:Int,∃ n c:Nat,x = .int bd/\Zl x=true/\Wd cs n/\Ws cs bd c /\
  ((120<n*(c+1)/\∀ H',Same H H'->E (.ref Ct) none H')\/(n*(c+1)<=120/\∀ r ys H',Same H H'->H' r=some (.lst ys)->ys.length=n*(c+1)->Q (.ref r) H')))
section
variable {P:Program} {w:World} {K:zAa} {mg:Str->Option Value} {base:Heap} {Ab Ad Ae Ag Al Ak Am Ac As At:Addr} {Bq Cq Ay De Cm Cb Au:Addr}
theorem Vu:Aw ["book", "marks", "cells", "cause", "thing"] ["book"] (Ar Kg):=by injections
theorem Nn {f:Addr} {fd:zCx} (F:Fun K "cells_of" "cells_of" Kg f fd) (T:Txt K mg) (Z:Xc K mg Bq Cq Ay De Cm Cb Au) (Cmarks_of:Cr P w K mg base 4 "marks_of" ["book"] (Gs (A8.mk Ab Ad Ae Ag Al Am Ac Ak) Ac As)) (Cday_stretches:Cr P w K mg base 1 "day_stretches" ["days"] Yz):FnOk P w K mg base (P5 P w) 5 f fd ["book"] (Jd (A8.mk Ab Ad Ae Ag Al Am Ac Ak) Ac As Au):=by
 have sc:=Vu;refine F.okX sc (fun vs H Q E h=>?_) (fun cdv A outer s H vs Q E hr h=>?_)
 ·obtain⟨_,_,_,rfl,_⟩:=h
  rfl
 obtain⟨b,cs,n,rfl,bw,l6,wd,alt⟩:=h;refine⟨_,(Aj (Ba (i:=1) sc.nd rfl (Or.inl rfl) (Av Cmarks_of (hr.mono (by decide)) rfl (Aa (pv 0) Ah)))
   (Aj (Cd (Bd Ie (Bc Em (Bc Em (Bc Bw (Bb Bh rfl T.n_len (show zCw _=some (.builtin "len") from rfl) (Aa (Be Br (pv 1) Ao (fun _ _=>rfl)) Ah)) Ao) (Bc Bw (Bb Bh rfl T.n_len (show zCw _=some (.builtin "len") from rfl) (Aa (Be Br (pv 1) Ao (fun _ _=>rfl)) Ah)) Ao)) (Bc Bw (Bb Bh rfl T.n_len (show zCw _=some (.builtin "len") from rfl) (Aa (Be Br (pv 1) Ao (fun _ _=>rfl)) Ah)) Ao)) (Cu T.g_MOST_CELLS rfl) (Bf _))
    (An (Qe On rfl Z.x_TooWide rfl (Aa Dc Ah)))
    Bm)
   (Aj (Ba (i:=2) sc.nd rfl (Or.inl rfl) (Bp Ah))
   (Aj (Cg PassesOwn.leaving rfl (Bg (Bc Hr (Be Br (pv 1) Ao (fun _ _=>rfl)) (Bp (Aa (Fl T.g_ANY_OTHER rfl) Ah)))) (Ax (i:=3) sc.nd rfl (Or.inr rfl))
    (An (Cg PassesOwn.leaving rfl (Bg (Bc Hr (Be Br (pv 1) Ao (fun _ _=>rfl)) (Bp (Aa (Fl T.g_ANY_OTHER rfl) Ah)))) (Ax (i:=4) sc.nd rfl (Or.inr rfl))
    (An (Ck (Fu PySem.F.plainAttrs_list PySem.F.slot_list_extend PySem.F.type_list_extend Dz (pv 2) (Aa (Cj (NC:=["first", "last", "cause", "thing"]) (own:=["first", "last"]) (cs:=["cause", "thing"]) (ix:=[3,4]) rfl (CompScope.of rfl) rfl ⟨⟨rfl,.inl rfl,rfl⟩,⟨⟨rfl,.inl rfl,rfl⟩,trivial⟩⟩ (Bg (Av Cday_stretches (hr.mono (by decide)) rfl (Aa (Be Br (pv 1) Ao (fun _ _=>rfl)) Ah))) (fun _ _ _=>(Lp (K:=K) (n:=2) rfl rfl (Bn (Ax (i:=0) (show (["first", "last", "cause", "thing"]:List Str).Nodup from by ac_nf) rfl (Or.inl rfl)) (Bn (Ax (i:=1) (show (["first", "last", "cause", "thing"]:List Str).Nodup from by ac_nf) rfl (Or.inl rfl)) Ds)))) (fun _ _ _=>By) (fun _ _ _=>(Cp (Aa (pv 2) (Aa (pv 3) (Aa (pv 0) (Aa (pv 1) Ah))))))) Ah)))))))
   (An (Az (pv 2))))))),?_⟩
 have sl:=zCv;have one:1<=sizeLine:=by lia
 refine (vE rfl ⟨b,cs,rfl,bw,l6,fun mk ma mb mc md A' B' D' E' H1 s1 hmk hma hmb hmc hmd ndA memA ndB memB pD memD _ _=>?_⟩);refine Dt [some (.ref b),some (.ref mk),none,none,none] rfl ?_;have en:=wd A' B' D' ndA memA ndB memB pD memD;have lA:=B7 l6 ndA memA;have lB:=B7 l6 ndB memB;have lD:=DC l6 pD memD;have hm:=SqT.of (K:=K) hmk;have ea:((A'.map V.str).length:Int)=A'.length:=by rw[zAb]
 have eb:((B'.map V.str).length:Int)=B'.length:=by rw[zAb]
 have ed:((D'.map V.int).length:Int)=D'.length:=by rw[zAb]
 have enI:(((A'.map V.str).length:Int)+1)*(((B'.map V.str).length:Int)+1)*(((D'.map V.int).length:Int)+1)=(n:Int):=by rw[ea,eb,ed,<- en]; push_cast; rfl
 have cmR:∀ {x y:Int},0<=y->y<=100->CMul x y:=fun h1 h2=>.inr ⟨by lia,by lia⟩;refine (vE rfl (vI rfl rfl hm rfl ⟨ma,_,rfl,.inl (SqL.of hma),vF rfl rfl (vE rfl (vI rfl rfl hm rfl ⟨mb,_,rfl,.inl (SqL.of hmb),vF rfl rfl (vF rfl rfl ⟨cmR (by lia) (by lia),vE rfl (vI rfl rfl hm rfl ⟨mc,_,rfl,.inl (SqL.of hmc),vF rfl rfl (vF rfl rfl ⟨cmR (by lia) (by lia),vF rfl rfl (vE rfl ?_)⟩)⟩)⟩)⟩))⟩));rcases alt with ⟨gt,r⟩ | ⟨le,q⟩
 ·refine dT ?_ ?_
  ·show (120:Int)<(((A'.map V.str).length:Int)+1)*(((B'.map V.str).length:Int)+1)*(((D'.map V.int).length:Int)+1)
   rw[enI]
   lia
  ·exact⟨one,r _ s1⟩
 refine dF ?_ ?_
 ·show ¬ (120:Int)<(((A'.map V.str).length:Int)+1)*(((B'.map V.str).length:Int)+1)*(((D'.map V.int).length:Int)+1)
  rw[enI]
  lia
 refine⟨zAk _,fun cl ncl=>?_⟩;refine Dt [some (.ref b),some (.ref mk),some (.ref cl),none,none] rfl ?_;have e0:CellsIn (upd H1 cl (.lst [])) cl 0:=⟨[],rfl,Af,fun t h=>(nomatch h)⟩;have k0:KB cl H1 (upd H1 cl (.lst [])):=fun x o e n=>by rw[Aq n]; exact e
 generalize upd H1 cl (.lst [])=H2 at e0 k0;have kn:∀ {x o},H1 x=some o->x≠cl:=fun e=>Ap e ncl;have en2:(A'.length+1)*((B'.length+1)*(D'.length+1))=n:=by rw[<- Nat.mul_assoc]; exact en
 generalize eW:(B'.length+1)*(D'.length+1)=W at en2;refine (vE rfl (vI rfl rfl (SqT.of (k0 _ _ hmk (kn hmk))) rfl ⟨one,fun o1 n1=>?_⟩));refine⟨ma,o1,_,_,rfl,rfl,Ai n1 _ _ _ (k0 _ _ hma (kn hma)),Af,by rw[zAb]; show _+1<=_; lia,fun a na=>?_⟩;obtain⟨s3,ha⟩:=Xa (xs:=A'.map V.str) n1 na;have acl:a≠cl:=fun e=>by
  obtain⟨ts,_,h,_⟩:=e0.same (Ai n1 (.lst [.str ""]));rw[e,h] at na;cases na
 have c3:=e0.same s3;have k3:KB cl H1 _:=k0.same s3;generalize upd (upd H2 o1 (.lst [.str ""])) a (.lst (A'.map V.str++[.str ""]))=H3 at s3 ha c3 k3;have lx:(A'.map V.str++[V.str ""]).length=A'.length+1:=by rw[zAi,zAb]; rfl
 refine⟨a,rfl,⟨_,SqL.of ha⟩,?_⟩;refine Cf (K:=K) (a:=a) (xs:=A'.map V.str++[.str ""]) (fun i σ H4=>(∃ o3 o4,σ=[some (.ref b),some (.ref mk),some (.ref cl),o3,o4])/\KB cl H3 H4/\CellsIn H4 cl (i*W)) ⟨⟨none,none,rfl⟩,fun _ _ e _=>e,by rw[Nat.zero_mul]; exact c3⟩ (fun i σ H4 _ hh=>SqL.of (hh.2.1 _ _ ha acl)) ?_ ?_
 ·rintro i x σ H4 hi ⟨⟨o3,o4,rfl⟩,k4,c4⟩
  have il:i<A'.length+1:=by have:=(zAj.mp hi).1; lia
  have iW:i*W+W<=n:=by
   rw[<- en2,<- zBK];exact Nat.mul_le_mul_right W il
  obtain⟨ca,rfl⟩:=strs_at hi;refine Dt [some (.ref b),some (.ref mk),some (.ref cl),some (.str ca),o4] rfl ?_;have k14:KB cl H1 H4:=fun x o e n=>k4 _ _ (k3 _ _ e n) n;refine (vE rfl (vI rfl rfl (SqT.of (k14 _ _ hmk (kn hmk))) rfl ⟨one,fun o1 n1=>?_⟩));refine⟨mb,o1,_,_,rfl,rfl,Ai n1 _ _ _ (k14 _ _ hmb (kn hmb)),Af,by rw[zAb]; show _+1<=_; lia,fun a2 na2=>?_⟩;obtain⟨s5,ha2⟩:=Xa (xs:=B'.map V.str) n1 na2;have acl2:a2≠cl:=fun e=>by
   obtain⟨ts,_,h,_⟩:=c4.same (Ai n1 (.lst [.str ""]));rw[e,h] at na2;cases na2
  have c5:=c4.same s5;have k5:KB cl H3 _:=k4.same s5;generalize upd (upd H4 o1 (.lst [.str ""])) a2 (.lst (B'.map V.str++[.str ""]))=H5 at s5 ha2 c5 k5;have lx2:(B'.map V.str++[V.str ""]).length=B'.length+1:=by rw[zAi,zAb]; rfl
  refine⟨a2,rfl,⟨_,SqL.of ha2⟩,?_⟩;refine Cf (K:=K) (a:=a2) (xs:=B'.map V.str++[.str ""]) (fun j σ H6=>(∃ o4,σ=[some (.ref b),some (.ref mk),some (.ref cl),some (.str ca),o4])/\KB cl H5 H6/\CellsIn H6 cl (i*W+j*(D'.length+1))) ⟨⟨o4,rfl⟩,fun _ _ e _=>e,by rw[Nat.zero_mul]; exact c5⟩ (fun i σ H6 _ hh=>SqL.of (hh.2.1 _ _ ha2 acl2)) ?_ ?_
  ·rintro j x σ H6 hj ⟨⟨o5,rfl⟩,k6,ts,lt,h6,t6⟩
   have jl:j<B'.length+1:=by have:=(zAj.mp hj).1; lia
   have jW:j*(D'.length+1)+(D'.length+1)<=W:=by
    rw[<- eW,<- zBK];exact Nat.mul_le_mul_right _ jl
   obtain⟨th,rfl⟩:=strs_at hj;refine Dt [some (.ref b),some (.ref mk),some (.ref cl),some (.str ca),some (.str th)] rfl ?_;have k16:KB cl H1 H6:=fun x o e n=>k6 _ _ (k5 _ _ (k3 _ _ e n) n) n;refine (vE rfl ⟨.inl ⟨rfl,_,SqL.of h6⟩,vE rfl (vI rfl rfl (SqT.of (k16 _ _ hmk (kn hmk))) rfl ⟨mc,D',rfl,k16 _ _ hmc (kn hmc),lD,fun r H7 nr s7 st7=>?_⟩)⟩);obtain⟨us,lu,hr7,u7⟩:=st7;refine⟨r,rfl,⟨_,SqL.of hr7⟩,fun p np=>?_⟩;have lm:(us.map V.ref).length=D'.length+1:=by rw[zAb]; exact lu
   refine Km (K:=K) (a:=r) (xs:=us.map V.ref) (fun i ys H8=>(∃ vs:List Addr,ys=vs.map V.ref/\vs.length=i/\∀ t∈vs,∃ (ca th:Str) (fi la:Int),H8 t=some (.tup [.str ca,.str th,.int fi,.int la]))/\H8 p=some (.lst ys)/\Same H7 H8) ⟨⟨[],rfl,rfl,fun _ h=>(nomatch h)⟩,Af,Ai np _⟩
    (fun i ys H8 _ ⟨⟨vs,e,l,_⟩,h8,s8⟩=>⟨h8,by rw[e,zAb,l]; exact zAf _,SqL.of (s8 _ _ hr7)⟩) (by rw[lm]; lia) (fun i x ys H8 hi ⟨⟨vs,e,l,m8⟩,h8,s8⟩=>?_) (fun ys H8 ⟨⟨vs,e,l,m8⟩,h8,s8⟩=>?_)
   ·rw[zAu] at hi
    obtain⟨t,ht,rfl⟩:=zAD.mp hi;obtain⟨fi,la,_,_,ht7⟩:=u7 t (zAB ht);refine⟨t,_,_,rfl,SqT.of (s8 _ _ ht7),?_⟩;refine (vE rfl (vE rfl (vE rfl (vE rfl ⟨Bk (by show 4<=1000; decide),fun t' nt'=>?_⟩))));have s9:=Ai nt' (.tup [.str ca,.str th,.int fi,.int la]);have tp:t'≠p:=fun e=>by rw[e,h8] at nt'; cases nt'
    refine⟨s9 _ _ h8,rfl,⟨vs++[t'],by rw[e,zAz]; rfl,by rw[zAi,l]; rfl,fun t ht=>?_⟩,Af,Bj np (s8.trans s9)⟩;rcases zAy.mp ht with h | h
    ·obtain⟨c1,c2,c3,c4,h1⟩:=m8 t h
     refine⟨c1,c2,c3,c4,?_⟩;rw[Aq (C6 h1 h8)];exact s9 _ _ h1
    ·rw[zAg.mp h]
     exact⟨ca,th,fi,la,by rw[Aq tp,Af]⟩
   ·subst e
    rw[lm] at l;have s68:=s7.trans s8;refine⟨cl,p,_,_,rfl,rfl,s68 _ _ h6,h8,by rw[zAb,zAb]; lia,⟨_,rfl⟩,fun x o e n=>?_,?_⟩
    ·rw[Aq n]
     exact s68 _ _ (k6 _ _ e n)
    ·rw[zBK,<- Nat.add_assoc]
     refine B0 (s68 _ _ h6) lt l (fun t ht=>?_) m8;obtain⟨c1,c2,c3,c4,h1⟩:=t6 t ht;exact⟨c1,c2,c3,c4,s68 _ _ h1⟩
  ·rintro σ H6 ⟨⟨o5,rfl⟩,k6,c6⟩
   refine⟨⟨_,_,rfl⟩,fun x o e n=>k6 _ _ (k5 _ _ e n) n,?_⟩;rw[lx2,eW] at c6;rw[zBK];exact c6
 ·rintro σ H4 ⟨⟨o3,o4,rfl⟩,k4,c4⟩
  rw[lx,en2] at c4;refine (vE rfl ?_);exact q cl H4 (s1.trans fun x o e=>k4 _ _ (k3 _ _ e (kn e)) (kn e)) c4
theorem Wq:Aw ["book", "bound", "cells", "stretches", "rows", "cell"] ["book", "bound"] (Ar Ju):=by injections
theorem Np {f:Addr} {fd:zCx} (F:Fun K "paper_of" "paper_of" Ju f fd) (T:Txt K mg) (Z:Xc K mg Bq Cq Ay De Cm Cb Au) (Cis_bound:Cr P w K mg base 3 "is_bound" ["thing"] (Vd K)) (Ccells_of:Zm P w K mg base 5 "cells_of" ["book"] (Jd (A8.mk Ab Ad Ae Ag Al Am Ac Ak) Ac As Au)) (Cstretches_of:Cr P w K mg base 5 "stretches_of" ["book", "bound"] (F3 (A8.mk Ab Ad Ae Ag Al Am Ac Ak) Ac As)) (Crow_of:Cr P w K mg base 6 "row_of" ["book", "cell", "lo", "hi"] (Q0 (A8.mk Ab Ad Ae Ag Al Am Ac Ak) Ac As)):FnOk P w K mg base (P5 P w) 7 f fd ["book", "bound"] (Ky K (A8.mk Ab Ad Ae Ag Al Am Ac Ak) Ac As Ay Au):=by
 have sc:=Wq;refine F.okX sc (fun vs H Q E h=>?_) (fun cdv A outer s H vs Q E hr h=>?_)
 ·obtain⟨_,_,_,_,rfl,_⟩:=h
  rfl
 obtain⟨b,cs,x,T0,rfl,ty,bw,l6,l20,alt⟩:=h;refine⟨_,(Aj (Cd (Fv (Dw (Av Cis_bound (hr.mono (by decide)) rfl (Aa (pv 1) Ah))))
    (An (Qe On rfl Z.x_NoEntry rfl (Aa Dc Ah)))
    Bm)
   (Aj (Ba (i:=2) sc.nd rfl (Or.inl rfl) (Pq Ccells_of (hr.mono (by decide)) On rfl (Aa (pv 0) Ah)))
   (Aj (Ba (i:=3) sc.nd rfl (Or.inl rfl) (Av Cstretches_of (hr.mono (by decide)) rfl (Aa (pv 0) (Aa (pv 1) Ah))))
   (Aj (Cd (Bd Ie (Bc Em (Bb Bh rfl T.n_len (show zCw _=some (.builtin "len") from rfl) (Aa (pv 2) Ah)) (Bb Bh rfl T.n_len (show zCw _=some (.builtin "len") from rfl) (Aa (pv 3) Ah))) (Cu T.g_MOST_ROWS rfl) (Bf _))
    (An (Qe On rfl Z.x_TooWide rfl (Aa Dc Ah)))
    Bm)
   (Aj (Ba (i:=4) sc.nd rfl (Or.inl rfl) (Bp Ah))
   (Aj (Cg PassesOwn.leaving rfl (Bg (pv 2)) (Ax (i:=5) sc.nd rfl (Or.inr rfl))
    (An (Ck (Fu PySem.F.plainAttrs_list PySem.F.slot_list_extend PySem.F.type_list_extend Dz (pv 4) (Aa (Cj (NC:=["lo", "hi", "book", "cell"]) (own:=["lo", "hi"]) (cs:=["book", "cell"]) (ix:=[0,5]) rfl (CompScope.of rfl) rfl ⟨⟨rfl,.inl rfl,rfl⟩,⟨⟨rfl,.inl rfl,rfl⟩,trivial⟩⟩ (Bg (pv 3)) (fun _ _ _=>(Lp (K:=K) (n:=2) rfl rfl (Bn (Ax (i:=0) (show (["lo", "hi", "book", "cell"]:List Str).Nodup from by ac_nf) rfl (Or.inl rfl)) (Bn (Ax (i:=1) (show (["lo", "hi", "book", "cell"]:List Str).Nodup from by ac_nf) rfl (Or.inl rfl)) Ds)))) (fun _ _ _=>By) (fun _ _ _=>(Av Crow_of (hr.mono (by decide)) rfl (Aa (pv 2) (Aa (pv 3) (Aa (pv 0) (Aa (pv 1) Ah))))))) Ah)))))
   (An (Az (pv 4))))))))),?_⟩
 have sl:=zCv;have one:1<=sizeLine:=by lia
 refine (vE rfl ⟨x,T0,rfl,ty,_,rfl,?_⟩);cases hb:Zl x with
 | false=>
  rcases alt with ⟨_,r⟩ | ⟨_,_,_,_,z,_⟩
  ·exact Jr ⟨one,r _ (Same.refl H)⟩
  ·rw[hb] at z
   cases z
 | true=>
  rcases alt with ⟨z,_⟩ | ⟨bd,n,c,rfl,_,wd,ws,alt⟩
  ·rw[hb] at z
   cases z
  have b1:1<=bd:=EB hb;have nc:n<=n*(c+1):=Nat.le_mul_of_pos_right n (Nat.succ_pos c);refine Dk (vE rfl ⟨b,cs,n,rfl,bw,l6,wd,?_⟩);by_cases gn:120<n
  ·refine .inl ⟨gn,fun H' s'=>?_⟩
   rcases alt with ⟨_,r⟩ | ⟨z,_⟩
   ·exact r H' s'
   ·lia
  refine .inr ⟨zCp gn,fun ce H1 s1 ⟨cs1,lc1,hce,t1⟩=>?_⟩;refine Dt [some (.ref b),some (.int bd),some (.ref ce),none,none,none] rfl ?_;refine (vE rfl (vE rfl ⟨b,cs,bd,rfl,bw.same s1,l6,b1,fun sr H2 E' nsr s2 pE mE ⟨us,lu,hsr,u2⟩=>?_⟩));refine Dt [some (.ref b),some (.int bd),some (.ref ce),some (.ref sr),none,none] rfl ?_;have ec:=ws E' pE mE;rw[ec] at lu;have hce2:=s2 _ _ hce;have l1:((cs1.map V.ref).length:Int)=n:=by rw[zAb,lc1]
  have l2:((us.map V.ref).length:Int)=(c:Int)+1:=by rw[zAb,lu]; rfl
  have l3:((n:Nat):Int)*((c:Int)+1)=((n*(c+1):Nat):Int):=by push_cast; rfl
  refine (vE rfl ⟨ce,_,rfl,.inl (SqL.of hce2),vE rfl ⟨sr,_,rfl,.inl (SqL.of hsr),vF rfl rfl ⟨.inl ⟨by lia,by lia⟩,vF rfl rfl (vE rfl ?_)⟩⟩⟩);rcases alt with ⟨gt,r⟩ | ⟨le,q⟩
  ·refine dT ?_ ⟨one,r _ (s1.trans s2)⟩
   show (120:Int)<((cs1.map V.ref).length:Int)*((us.map V.ref).length:Int);rw[l1,l2,l3]
   lia
  refine dF ?_ ?_
  ·show ¬ (120:Int)<((cs1.map V.ref).length:Int)*((us.map V.ref).length:Int)
   rw[l1,l2,l3]
   lia
  refine⟨zAk _,fun rw' nrw=>?_⟩;refine Dt [some (.ref b),some (.int bd),some (.ref ce),some (.ref sr),some (.ref rw'),none] rfl ?_;have s3:=Ai nrw (.lst []);have h3:upd H2 rw' (.lst []) rw'=some (.lst []):=Af;generalize upd H2 rw' (.lst [])=H3 at s3 h3;have lx:(cs1.map V.ref).length=n:=by rw[zAb,lc1]
  refine (vE rfl ⟨ce,rfl,⟨_,SqL.of (s3 _ _ hce2)⟩,?_⟩);refine Cf (K:=K) (a:=ce) (xs:=cs1.map V.ref) (fun i σ H4=>(∃ o5,σ=[some (.ref b),some (.int bd),some (.ref ce),some (.ref sr),some (.ref rw'),o5])/\Same H2 H4/\∃ ys:List V,H4 rw'=some (.lst ys)/\ys.length=i*(c+1)) ⟨⟨none,rfl⟩,s3,[],h3,by rw[Nat.zero_mul]; rfl⟩ (fun i σ H4 _ hh=>SqL.of (hh.2.1 _ _ hce2)) ?_ ?_
  ·rintro i x σ H4 hi ⟨⟨o5,rfl⟩,s4,ys,h4,ly⟩
   have il:i<n:=by have:=(zAj.mp hi).1; lia
   have iW:i*(c+1)+(c+1)<=n*(c+1):=by
    rw[<- zBK];exact Nat.mul_le_mul_right _ il
   rw[zAu] at hi;obtain⟨t,ht,rfl⟩:=zAD.mp hi;obtain⟨ca,th,fi,la,ht1⟩:=t1 t (zAB ht);have ht4:=s4 _ _ (s2 _ _ ht1);have bw4:=bw.same (s1.trans (s2.trans s4));refine Dt [some (.ref b),some (.int bd),some (.ref ce),some (.ref sr),some (.ref rw'),some (.ref t)] rfl ?_;refine (vE rfl ⟨.inl ⟨rfl,_,SqL.of h4⟩,vE rfl ⟨sr,rfl,⟨_,SqL.of (s4 _ _ hsr)⟩,fun p np=>?_⟩⟩);have lm:(us.map V.ref).length=c+1:=by rw[zAb,lu]
   refine Km (K:=K) (a:=sr) (xs:=us.map V.ref) (fun i zs H5=>zs.length=i/\H5 p=some (.lst zs)/\Same H4 H5) ⟨rfl,Af,Ai np _⟩
    (fun i zs H5 _ ⟨l,h5,s5⟩=>⟨h5,zBP l,SqL.of (s5 _ _ (s4 _ _ hsr))⟩) (by rw[lm]; lia) (fun i x zs H5 hi ⟨l,h5,s5⟩=>?_) (fun zs H5 ⟨l,h5,s5⟩=>?_)
   ·rw[zAu] at hi
    obtain⟨u,hu,rfl⟩:=zAD.mp hi;obtain⟨lo,hh,pos,_,hu2⟩:=u2 u (zAB hu);refine⟨u,_,_,rfl,SqT.of (s5 _ _ (s4 _ _ hu2)),?_⟩;refine (vE rfl (vE rfl (vE rfl (vE rfl ⟨b,cs,t,ca,th,fi,la,lo,hh,rfl,bw4.same s5,l6,l20,s5 _ _ ht4,pos,fun r H6 s6=>?_⟩))));exact⟨s6 _ _ h5,rfl,by rw[zAi,l]; rfl,Af,Bj np (s5.trans s6)⟩
   ·rw[lm] at l
    refine⟨rw',p,_,_,rfl,rfl,s5 _ _ h4,h5,by lia,⟨_,rfl⟩,Bj nrw (s4.trans s5),_,Af,?_⟩;rw[zAi,ly,l,zBK]
  ·rintro σ H4 ⟨⟨o5,rfl⟩,s4,ys,h4,ly⟩
   rw[lx] at ly;exact vE rfl (q rw' ys H4 (s1.trans (s2.trans s4)) h4 ly)
def Q8 (K:zAa) (κ:A8) (C CB:Addr):Sp:=fun vs H Q _=>∃ wy:Int,∃ b cs x T,∃ n:Nat,vs=[.int wy,.ref b,x]/\TyOf K H x (.type T)/\BwAt κ C CB H b cs/\(mB cs).length<=60/\cs.length<=20/\Wd cs n /\
 ((wy=0/\∀ H',Same H H'->Q (.int (if 120<n then 1 else 0)) H') \/
   (wy=1/\Zl x=false/\∀ H',Same H H'->Q (.int 2) H') \/
   (wy=1/\∃ bd:Int,∃ c:Nat,x = .int bd/\Zl x=true/\Ws cs bd c/\120<n*(c+1)/\∀ H',Same H H'->Q (.int 1) H'))
theorem Nz:Aw ["_law_way", "_law_book_here", "_law_bound", "e", "_law_others", "_law_some_here"] ["_law_way", "_law_book_here", "_law_bound"] (Ar Fo):=by injections
theorem Nx {f:Addr} {fd:zCx} (F:Fun K "_law_refused" "_law_refused" Fo f fd) (T:Txt K mg) (Z:Xc K mg Bq Cq Ay De Cm Cb Au) (Ccells_of:Zm P w K mg base 5 "cells_of" ["book"] (Jd (A8.mk Ab Ad Ae Ag Al Am Ac Ak) Ac As Au)) (Cpaper_of:Zm P w K mg base 7 "paper_of" ["book", "bound"] (Ky K (A8.mk Ab Ad Ae Ag Al Am Ac Ak) Ac As Ay Au)):FnOk P w K mg base Da 9 f fd ["_law_way", "_law_book_here", "_law_bound"] (Q8 K (A8.mk Ab Ad Ae Ag Al Am Ac Ak) Ac As):=by
 have sc:=Nz;bv_omega
 ·obtain⟨_,_,_,_,_,_,rfl,_⟩:=h
  rfl
 have hu:=EO hr;obtain⟨wy,b,cs,x,T0,n,rfl,ty,bw,l6,l20,wd,alt⟩:=h;refine⟨_,(Aj (AZ (i:=3) rfl rfl rfl Z.a_CoverError sc.nd rfl rfl (fun pn E W hW hp=>
    (An (Cd (Bd Gg (pv 0) Ao (Bf _))
    (An (Ck (Pq Ccells_of (hr.mono (by decide)) hW rfl (Aa (pv 1) Ah))))
    (An (Ck (Pq Cpaper_of (hr.mono (by decide)) hW rfl (Aa (pv 1) (Aa (pv 2) Ah)))))))) (fun e=>
    (Aj (Ba (i:=4) sc.nd rfl (Or.inl rfl) (Bp (Aa (Bb (Ed (K:=K)) rfl T.n_isinstance (show zCw _=some (.builtin "isinstance") from rfl) (Aa (pv 3) (Aa (Vg rfl Z.a_NoBook) Ah))) (Aa (Bb (Ed (K:=K)) rfl T.n_isinstance (show zCw _=some (.builtin "isinstance") from rfl) (Aa (pv 3) (Aa (Vg rfl Z.a_NotTold) Ah))) Ah))))
   (Aj (Ba (i:=5) sc.nd rfl (Or.inl rfl) (Bp (Aa (Bb (Ed (K:=K)) rfl T.n_isinstance (show zCw _=some (.builtin "isinstance") from rfl) (Aa (pv 3) (Aa (Vg rfl Z.a_TooWide) Ah))) (Aa (Bb (Ed (K:=K)) rfl T.n_isinstance (show zCw _=some (.builtin "isinstance") from rfl) (Aa (pv 3) (Aa (Vg rfl Z.a_NoEntry) Ah))) Ah))))
   (Aj (Cd (PW.pt (Qa (Fv (Dw (Bb (Ed (K:=K)) rfl T.n_isinstance (show zCw _=some (.builtin "isinstance") from rfl) (Aa (pv 3) (Aa (Xf "ValueError" rfl T.n_ValueError rfl) Ah))))) (Qa (Bd (D1 (K:=K)) Dr (pv 4) rfl) (Mc (Bd (Z9 (K:=K) hu) (pv 5) (Bp (Aa Dr (Aa Dr Ah))) (Bf _))))))
    (An (Az Ao))
    Bm)
   (An (Az (Et (Bd (D1 (K:=K)) Dr (pv 5) rfl) (Bc Bw (FD (K:=K) rfl PySem.F.plainAttrs_list PySem.F.slot_list_index PySem.F.type_list_index (N1 (K:=K) rfl) (pv 5) (Aa Dr Ah)) Ao) Ao))))))))
   (An (Az Ao))),?_⟩
 rcases alt with ⟨rfl,q⟩ | ⟨rfl,nb,q⟩ | ⟨rfl,bd,c,rfl,yb,ws,gt,q⟩
 ·refine vE rfl ⟨rfl,vE rfl (dT rfl (vE rfl ⟨b,cs,n,rfl,bw,l6,wd,?_⟩))⟩
  by_cases g:120<n
  ·rw[if_pos g] at q
   refine .inl ⟨g,fun H3 s3=>?_⟩;refine⟨Au,rfl,Z.h_TooWide_CoverError,fun e he=>?_⟩;have ze:=Z.e_TooWide;refine⟨_,rfl,e,_,_,_,_,rfl,Af,ze,Fb,Z.k_TooWide_NoBook,_,rfl,e,_,_,_,_,rfl,Af,ze,Fb,Z.k_TooWide_NotTold,Bk (by show 2<=1000; decide),fun l1 n1=>?_⟩;have u0:=Ai he (Yo e (.ref Au) none);have e0:upd H3 e (Yo e (.ref Au) none) e=some (Yo e (.ref Au) none):=Af;generalize upd H3 e (Yo e (.ref Au) none)=H4 at u0 e0 n1;have u1:=Ai n1 (.lst [V.bl false,.bl false]);have e1:upd H4 l1 (.lst [V.bl false,.bl false]) l1=some (.lst [V.bl false,.bl false]):=Af;generalize upd H4 l1 (.lst [V.bl false,.bl false])=H5 at u1 e1;have e5:=u1 _ _ e0;refine⟨_,rfl,e,_,_,_,_,rfl,e5,ze,Fb,Z.k_TooWide_TooWide,_,rfl,e,_,_,_,_,rfl,e5,ze,Fb,Z.k_TooWide_NoEntry,Bk (by show 2<=1000; decide),fun l2 n2=>?_⟩;have u2:=Ai n2 (.lst [V.bl true,.bl false]);have e2:upd H5 l2 (.lst [V.bl true,.bl false]) l2=some (.lst [V.bl true,.bl false]):=Af;generalize upd H5 l2 (.lst [V.bl true,.bl false])=H6 at u2 e2;have e6:=u2 _ _ e5;refine⟨_,rfl,e,_,_,_,_,rfl,e6,ze,Qr,Z.v_TooWide,_,rfl,Dk ⟨_,rfl,l1,_,rfl,.inl (SqL.of (u2 _ _ e1)),rfl,rfl,_,rfl,Dk ⟨_,rfl,Bk (by show 2<=1000; decide),fun l3 n3=>⟨l2,l3,_,_,rfl,rfl,SqL.of (Ai n3 _ _ _ e2),SqL.of Af,rfl,rfl,_,rfl,Dk ?_⟩⟩⟩⟩;have e7:=Ai n3 (.lst [V.bl true,.bl true]) _ _ e2;refine⟨_,rfl,l2,_,rfl,.inl (SqL.of e7),rfl,rfl,_,rfl,Jr ⟨_,rfl,.inl ⟨rfl,_,SqL.of e7⟩,l2,_,_,0,rfl,rfl,SqL.of e7,rfl,rfl,by decide,⟨_,rfl,rfl⟩,(fun m z hm=>absurd hm (zBp _)),_,_,rfl,rfl,?_⟩⟩;exact q _ (s3.trans (u0.trans (u1.trans (u2.trans (Ai n3 _)))))
  ·rw[if_neg g] at q
   exact .inr ⟨zCp g,fun r H3 s3 _=>q _ s3⟩
 ·refine vE rfl ⟨rfl,vE rfl (dF (by intro e; cases e) (vE rfl (vE rfl ⟨b,cs,x,T0,rfl,ty,bw,l6,l20,.inl ⟨nb,fun H3 s3=>?_⟩⟩)))⟩
  refine⟨Ay,rfl,Z.h_NoEntry_CoverError,fun e he=>?_⟩;have ze:=Z.e_NoEntry;refine⟨_,rfl,e,_,_,_,_,rfl,Af,ze,Fb,Z.k_NoEntry_NoBook,_,rfl,e,_,_,_,_,rfl,Af,ze,Fb,Z.k_NoEntry_NotTold,Bk (by show 2<=1000; decide),fun l1 n1=>?_⟩;have u0:=Ai he (Yo e (.ref Ay) none);have e0:upd H3 e (Yo e (.ref Ay) none) e=some (Yo e (.ref Ay) none):=Af;generalize upd H3 e (Yo e (.ref Ay) none)=H4 at u0 e0 n1;have u1:=Ai n1 (.lst [V.bl false,.bl false]);have e1:upd H4 l1 (.lst [V.bl false,.bl false]) l1=some (.lst [V.bl false,.bl false]):=Af;generalize upd H4 l1 (.lst [V.bl false,.bl false])=H5 at u1 e1;have e5:=u1 _ _ e0;refine⟨_,rfl,e,_,_,_,_,rfl,e5,ze,Fb,Z.k_NoEntry_TooWide,_,rfl,e,_,_,_,_,rfl,e5,ze,Fb,Z.k_NoEntry_NoEntry,Bk (by show 2<=1000; decide),fun l2 n2=>?_⟩;have u2:=Ai n2 (.lst [V.bl false,.bl true]);have e2:upd H5 l2 (.lst [V.bl false,.bl true]) l2=some (.lst [V.bl false,.bl true]):=Af;generalize upd H5 l2 (.lst [V.bl false,.bl true])=H6 at u2 e2;have e6:=u2 _ _ e5;refine⟨_,rfl,e,_,_,_,_,rfl,e6,ze,Qr,Z.v_NoEntry,_,rfl,Dk ⟨_,rfl,l1,_,rfl,.inl (SqL.of (u2 _ _ e1)),rfl,rfl,_,rfl,Dk ⟨_,rfl,Bk (by show 2<=1000; decide),fun l3 n3=>⟨l2,l3,_,_,rfl,rfl,SqL.of (Ai n3 _ _ _ e2),SqL.of Af,rfl,rfl,_,rfl,Dk ?_⟩⟩⟩⟩;have e7:=Ai n3 (.lst [V.bl true,.bl true]) _ _ e2;refine⟨_,rfl,l2,_,rfl,.inl (SqL.of e7),rfl,rfl,_,rfl,Jr ⟨_,rfl,.inl ⟨rfl,_,SqL.of e7⟩,l2,_,_,1,rfl,rfl,SqL.of e7,rfl,rfl,by decide,⟨_,rfl,rfl⟩,(fun m z hm hz=>?_),_,_,rfl,rfl,?_⟩⟩
  ·obtain rfl:m=0:=by lia
   have:z = .bl false:=by simpa using hz.symm
   subst this;rfl
  exact q _ (s3.trans (u0.trans (u1.trans (u2.trans (Ai n3 _)))))
 ·refine vE rfl ⟨rfl,vE rfl (dF (by intro e; cases e) (vE rfl (vE rfl ⟨b,cs,.int bd,T0,rfl,ty,bw,l6,l20,.inr ⟨bd,n,c,rfl,yb,wd,ws,.inl ⟨gt,fun H3 s3=>?_⟩⟩⟩)))⟩
  refine⟨Au,rfl,Z.h_TooWide_CoverError,fun e he=>?_⟩;have ze:=Z.e_TooWide;refine⟨_,rfl,e,_,_,_,_,rfl,Af,ze,Fb,Z.k_TooWide_NoBook,_,rfl,e,_,_,_,_,rfl,Af,ze,Fb,Z.k_TooWide_NotTold,Bk (by show 2<=1000; decide),fun l1 n1=>?_⟩;have u0:=Ai he (Yo e (.ref Au) none);have e0:upd H3 e (Yo e (.ref Au) none) e=some (Yo e (.ref Au) none):=Af;generalize upd H3 e (Yo e (.ref Au) none)=H4 at u0 e0 n1;have u1:=Ai n1 (.lst [V.bl false,.bl false]);have e1:upd H4 l1 (.lst [V.bl false,.bl false]) l1=some (.lst [V.bl false,.bl false]):=Af;generalize upd H4 l1 (.lst [V.bl false,.bl false])=H5 at u1 e1;have e5:=u1 _ _ e0;refine⟨_,rfl,e,_,_,_,_,rfl,e5,ze,Fb,Z.k_TooWide_TooWide,_,rfl,e,_,_,_,_,rfl,e5,ze,Fb,Z.k_TooWide_NoEntry,Bk (by show 2<=1000; decide),fun l2 n2=>?_⟩;have u2:=Ai n2 (.lst [V.bl true,.bl false]);have e2:upd H5 l2 (.lst [V.bl true,.bl false]) l2=some (.lst [V.bl true,.bl false]):=Af;generalize upd H5 l2 (.lst [V.bl true,.bl false])=H6 at u2 e2;have e6:=u2 _ _ e5;refine⟨_,rfl,e,_,_,_,_,rfl,e6,ze,Qr,Z.v_TooWide,_,rfl,Dk ⟨_,rfl,l1,_,rfl,.inl (SqL.of (u2 _ _ e1)),rfl,rfl,_,rfl,Dk ⟨_,rfl,Bk (by show 2<=1000; decide),fun l3 n3=>⟨l2,l3,_,_,rfl,rfl,SqL.of (Ai n3 _ _ _ e2),SqL.of Af,rfl,rfl,_,rfl,Dk ?_⟩⟩⟩⟩;have e7:=Ai n3 (.lst [V.bl true,.bl true]) _ _ e2;refine⟨_,rfl,l2,_,rfl,.inl (SqL.of e7),rfl,rfl,_,rfl,Jr ⟨_,rfl,.inl ⟨rfl,_,SqL.of e7⟩,l2,_,_,0,rfl,rfl,SqL.of e7,rfl,rfl,by decide,⟨_,rfl,rfl⟩,(fun m z hm=>absurd hm (zBp _)),_,_,rfl,rfl,?_⟩⟩;exact q _ (s3.trans (u0.trans (u1.trans (u2.trans (Ai n3 _)))))
end
def hid (H:Hp) (a:Addr):Hp:=fun b=>if b=a then none else H b
theorem He {H:Hp} {a b:Addr} (h:b≠a):hid H a b=H b:=if_neg h
theorem Q6 (H:Hp) (a:Addr):Same (hid H a) H:=fun b o e=>by
 by_cases c:b=a
 ·subst c
  unfold hid at e;rw[if_pos rfl] at e;cases e
 ·rw[He c] at e
  exact e
theorem Vw {H H':Hp} {a:Addr} (s:∀ b o,b≠a->H b=some o->H' b=some o):Same (hid H a) (hid H' a):=fun b o e=>by
 by_cases c:b=a
 ·subst c
  unfold hid at e;rw[if_pos rfl] at e;cases e
 ·rw[He c] at e ⊢
  exact s b o c e
theorem Tu {κ:A8} {H H':Hp} (s:∀ p C dx fs,H p=some (.ins C dx fs)->H' p=some (.ins C dx fs)):∀ {vs:List V} {ts:List Cnd},(∀ t∈ts,∃ c,t = .at c)->CdsAt κ H vs ts->CdsAt κ H' vs ts
 | [],[],_,_=>by unfold CdsAt; trivial
 | v::vs,t::ts,h,e=>by
  unfold CdsAt at e ⊢;obtain⟨c,rfl⟩:=h t zAo;refine⟨?_,Tu s (fun t ht=>h t (zAs _ ht)) e.2⟩;have e1:=e.1;unfold CdAt at e1 ⊢;obtain⟨p,dx,rfl,hp⟩:=e1;exact⟨p,dx,rfl,s _ _ _ _ hp⟩
 | [],_::_,_,e=>by unfold CdsAt at e; exact e.elim
 | _::_,[],_,e=>by unfold CdsAt at e; exact e.elim
theorem Os {H:Hp} {p c C dx:Addr} {fs:List (Str×V)} {xs:List V} (h:H p=some (.ins C dx fs)) (hc:H c=some (.lst xs)):p≠c:=fun e=>by
 rw[e,hc] at h;cases h
def Uf (κ:A8):Sp:=fun vs H Q _=>∃ a us ts,vs=[.ref a]/\H a=some (.lst us)/\CdsAt κ H us ts/\ts.length<=7/\(∀ t∈ts,∃ c,t = .at c)/\∀ v t H',Same H H'->(∀ c xs,H c=some (.lst xs)->CdAt κ (hid H' c) v t)->nn t->Bv t=marksTs ts->Q v H'
section
variable {P:Program} {w:World} {K:zAa} {mg:Str->Option Value} {base:Heap} {Ab Ad Ae Ag Al Ak Am Ac As At:Addr}
theorem Vf:Aw ["_law_parts"] ["_law_parts"] (Ar Ib):=by injections
theorem Tv {f:Addr} {fd:zCx} (F:Fun K "_law_some" "_law_some" Ib f fd) (T:Txt K mg) (L:Kl K mg Ab Ad Ae Ag Al Ak Am Ac As At) (NCondition:IH K mg "Condition" Ab) (KSome:Gw P w K mg base 1 "Some" Ak ["self", "several"] (U3 Ak)):FnOk P w K mg base Da 3 f fd ["_law_parts"] (Uf (A8.mk Ab Ad Ae Ag Al Am Ac Ak)):=by
 have sc:=Vf;bv_omega
 ·obtain⟨_,_,_,rfl,_⟩:=h
  rfl
 obtain⟨a,us,ts,rfl,ha,cd,l7,at',q⟩:=h;refine⟨_,(Aj (Cd (Bd Gg (Bb Bh rfl T.n_len (show zCw _=some (.builtin "len") from rfl) (Aa (pv 0) Ah)) Ao (Bf _))
    (An (Az (AV NCondition rfl)))
    Bm)
   (Aj (Cd (Bd Gg (Bb Bh rfl T.n_len (show zCw _=some (.builtin "len") from rfl) (Aa (pv 0) Ah)) Ao (Bf _))
    (An (Az (Be Bx (pv 0) Ao (fun _ _=>rfl))))
    Bm)
   (An (Az (Eu KSome (hr.mono (by decide)) rfl (Aa (pv 0) Ah)))))),?_⟩
 have lu:=cd.len;refine (vE rfl ⟨a,us,rfl,.inl (SqL.of ha),⟨rfl,vE rfl ?_⟩⟩);by_cases c0:us.length=0
 ·refine dT (congrArg V.int (congrArg Int.ofNat c0)) (fun y dx ny ndx nex=>?_)
  have et:ts=[]:=zCi.mp (by lia);subst et;refine q _ (.at .alw) _ (Ea (C:=Ab) ny ndx fun b o e _=>e) (fun c xs hc=>?_) trivial (by unfold Bv marksTs Pt; rfl);unfold CdAt;exact⟨y,dx,rfl,by rw[He (Ne.symm (Ap hc ny)),Af]; rfl⟩
 ·refine dF (fun e=>c0 (Int.ofNat.inj (V.int.inj e))) ?_
  refine (vE rfl ⟨a,us,rfl,.inl (SqL.of ha),⟨rfl,vE rfl ?_⟩⟩);by_cases c1:us.length=1
  ·refine dT (congrArg V.int (congrArg Int.ofNat c1)) ?_
   obtain⟨u,rfl⟩:=List.length_eq_one_iff.mp c1;obtain⟨t,rfl⟩:=List.length_eq_one_iff.mp (show ts.length=1 by lia);obtain⟨c,rfl⟩:=at' t zAo;refine (vE rfl (vI rfl rfl (SqL.of ha) rfl ?_));unfold CdsAt at cd;have cd1:=cd.1;unfold CdAt at cd1;obtain⟨p,dx,rfl,hp⟩:=cd1;refine q _ (.at c) H (Same.refl H) (fun l xs hl=>?_) trivial (by unfold marksTs marksTs; rw[zAJ]);unfold CdAt;exact⟨p,dx,rfl,by rw[He (Os hp hl)]; exact hp⟩
  ·refine dF (fun e=>c1 (Int.ofNat.inj (V.int.inj e))) ?_
   refine (vE rfl (fun p dx np nd ne=>?_));have s2:Same H (upd (upd H dx (.own p)) p (.ins Ak dx [])):=Ea (C:=Ak) np nd fun b o e _=>e;refine⟨p,dx,a,us,rfl,Af,s2 _ _ ha,fun l H' nl kb hp hl=>⟨rfl,?_⟩⟩;have nl2:H l=none:=s2.free nl;have npl:p≠l:=fun e=>by rw[<- e,Af] at nl; cases nl
   have s3:Same H H':=fun b o e=>by
    rw[kb b (Ap e np) (Ap e nl2)];exact s2 _ _ e
   refine q _ (.so ts) H' s3 (fun c xs hc=>?_) at' (by unfold Bv; rfl);unfold CdAt;exact⟨p,dx,l,us,rfl,by rw[He (Ne.symm (Ap hc np))]; exact hp,by rw[He (Ne.symm (Ap hc nl2))]; exact hl,Tu (fun p C dx fs h=>by rw[He (Os h hc)]; exact s3 _ _ h) at' cd⟩
def AX (st k:Int):Str:=Txt.slice "abcdefgh" (some k) (some (k+1+st%2))
def DT (k:Int):Str:=tx (zAQ (k+1).toNat [104]).flatten
def Jo (g:Int->Co) (n:Nat):List Cnd:=(zAN n).map fun (k:Nat)=>Cnd.at (g (0+(k:Int)))
theorem Xm (g:Int->Co) (n:Nat):Jo g (n+1)=Jo g n++[.at (g (0+(n:Int)))]:=by
 unfold Jo;rw[List.range_succ,zAz];rfl
theorem Ll (g:Int->Co) (n:Nat):(Jo g n).length=n:=by
 unfold Jo;rw[zAb,zAY]
theorem U6 (g:Int->Co) (n:Nat):∀ t∈Jo g n,∃ c,t = .at c:=fun t h=>by
 obtain⟨k,_,rfl⟩:=zAR.mp h;exact⟨_,rfl⟩
def Xo (st:Int):Int->Co:=fun k=>.cau (AX st k)
def Vq:Int->Co:=fun k=>.thi (DT k)
def Zn (st gp:Int):Int->Co:=fun k=>.day (st+gp*k) 1000000
def Yk (st gp:Int):Int->Co:=fun k=>.ovr (st+gp*k)
theorem Lr {κ:A8} {H H6:Hp} {r x dx:Addr} {ys:List V} {g:Int->Co} {i:Nat} (cd:CdsAt κ H ys (Jo g i)) (hr:H6 r=some (.lst ys)) (s:Same H H6) (hx:H6 x=some (.ins (κ.of (.at (g (0+(i:Int))))) dx (Hb (g (0+(i:Int)))))):CdsAt κ (upd H6 r (.lst (ys++[.ref x]))) (ys++[.ref x]) (Jo g (i+1)):=by
 rw[Xm];refine CdsAt.snoc (Tu (fun p C dx fs h=>?_) (U6 g i) cd) ?_
 ·have h6:=s _ _ h
  rw[Aq (Os h6 hr)];exact h6
 ·unfold CdAt
  exact⟨x,dx,rfl,by rw[Aq (Os hx hr)]; exact hx⟩
def Ku (st gp:Int) (a b c d:Nat):List Ot:=marksTs (Jo (Xo st) a)++(marksTs (Jo Vq b)++(marksTs (Jo (Zn st gp) c)++marksTs (Jo (Yk st gp) d)))
theorem Qf {H:Hp} {x dx C:Addr} {fs:List (Str×V)} (nx:H x=none) (ndx:H dx=none):Same H (upd (upd (upd H dx (.own x)) x (.ins C dx [])) x (.ins C dx fs)):=Ea nx ndx fun b o e n=>by rw[Aq n]; exact e
def nmL:List Str:=[⟨#[97]⟩,⟨#[98]⟩,⟨#[99]⟩,⟨#[100]⟩]
theorem GQ:nmL.Nodup:=by ac_nf
theorem Z6 {i:Nat} (h:i<4):∃ c,Zb ("abcd" : Str).cps.toList (0+(i:Int))=some c/\nameV (.str ⟨#[c]⟩)=true/\(⟨#[c]⟩:Str).length<=8/\(⟨#[c]⟩:Str) ≠ "self"/\nmL[i]?=some ⟨#[c]⟩:=by
 have z:i=0\/i=1\/i=2\/i=3:=by lia
 rcases z with rfl | rfl | rfl | rfl
 ·exact⟨97,by ac_nf,by ac_nf,by ac_nf,by ac_nf,rfl⟩
 ·exact⟨98,by ac_nf,by ac_nf,by ac_nf,by ac_nf,rfl⟩
 ·exact⟨99,by ac_nf,by ac_nf,by ac_nf,by ac_nf,rfl⟩
 ·exact⟨100,by ac_nf,by ac_nf,by ac_nf,by ac_nf,rfl⟩
def BI (x:Cw):Cv:=(x.p,x.nm,x.wt)
theorem BV (cs:List Cw):(cs.map BI).map Qy=cs.map Sa:=by
 rw[List.map_map];rfl
theorem EE (cs:List Cw):(AA (cs.map BI)).map Qy=(Re cs).map Sa:=by
 unfold AA Re;rw[zAz,zAz,List.filter_map,List.filter_map,List.map_map,List.map_map];rfl
theorem EM {κ:A8} {C:Addr} {H:Hp} {cs:List Cw} (h:∀ x∈cs,CwAt κ C H x):CvsAt C H (cs.map BI):=fun c hc=>by
 obtain⟨x,hx,rfl⟩:=zAR.mp hc;obtain⟨dx,fs,_,_,e,a1,_,_,a4,_⟩:=h x hx;exact⟨dx,fs,e,a1,a4⟩
def W5 (K:zAa) (κ:A8) (C CB:Addr):Sp:=fun vs H Q _=>∃ z,∃ a b c d:Nat,∃ st gp wt:Int,vs=[.ref z,.int st,.int gp,.int wt]/\SqL K H z [.int a,.int b,.int c,.int d]/\a<=7/\b<=7/\c<=7/\d<=7/\∀ r cs H',Same H H'->BwAt κ C CB H' r cs->cs.length=4->mB cs=Ku st gp a b c d->Q (.ref r) H'
theorem Ur:Aw ["_law_sizes", "_law_start", "_law_gap", "_law_waits", "_law_causes", "_law_things", "_law_days", "_law_amounts", "_law_covers", "_law_k"] ["_law_sizes", "_law_start", "_law_gap", "_law_waits"] (Ar Ih):=by injections
theorem Uc {f:Addr} {fd:zCx} (F:Fun K "_law_book" "_law_book" Ih f fd) (T:Txt K mg) (L:Kl K mg Ab Ad Ae Ag Al Ak Am Ac As At) (C_law_some:Cr P w K mg base 3 "_law_some" ["_law_parts"] (Uf (A8.mk Ab Ad Ae Ag Al Am Ac Ak)))
  (KCauseIs:Gw P w K mg base 1 "CauseIs" Ad ["self", "name"] (Lj Ad "name")) (KThingIs:Gw P w K mg base 1 "ThingIs" Ae ["self", "name"] (Lj Ae "name")) (KDaysIn:Gw P w K mg base 1 "DaysIn" Ag ["self", "first", "last"] (P3 Ag)) (KOver:Gw P w K mg base 1 "Over" Al ["self", "cents"] (Lj Al "cents"))
  (KCover:Gw P w K mg base 6 "Cover" Ac ["self", "name", "condition", "clauses", "houses", "waits"] (A0 Ac)) (KBook:Gw P w K mg base 1 "Book" As ["self", "covers"] (Zo Ac As)):FnOk P w K mg base Da 8 f fd ["_law_sizes", "_law_start", "_law_gap", "_law_waits"] (W5 K (A8.mk Ab Ad Ae Ag Al Am Ac Ak) Ac As):=by
 have sc:=Ur;bv_omega
 ·obtain⟨_,_,_,_,_,_,_,_,rfl,_⟩:=h
  rfl
 obtain⟨z,a,b,c,d,st,gp,wt,rfl,hz,a7,b7,c7,d7,q⟩:=h;refine⟨_,(Aj (Cs (NC:=["_law_k", "_law_start"]) (own:=["_law_k"]) (cs:=["_law_start"]) (ix:=[1]) (j:=4) sc.nd rfl rfl rfl (CompScope.of rfl) rfl ⟨⟨rfl,.inl rfl,rfl⟩,trivial⟩ (Dl rfl T.n_range (Aa (Be Bx (pv 0) Ao (fun _ _=>rfl)) Ah)) (fun _ _ _=>(Ax (i:=0) (show (["_law_k", "_law_start"]:List Str).Nodup from by ac_nf) rfl (Or.inl rfl))) (fun _ _ _=>By) (fun _ _ _=>(Eu KCauseIs (hr.mono (by decide)) rfl (Aa (Pd FI Dc (Oq (pv 0)) (Oq (Bc Bw (Bc Bw (pv 0) Ao) (Bc Gk (pv 1) Ao)))) Ah))))
   (Aj (Cs (NC:=["_law_k"]) (own:=["_law_k"]) (cs:=[]) (ix:=[]) (j:=5) sc.nd rfl rfl rfl (CompScope.of rfl) rfl trivial (Dl rfl T.n_range (Aa (Be Bx (pv 0) Ao (fun _ _=>rfl)) Ah)) (fun _ _ _=>(Ax (i:=0) (show (["_law_k"]:List Str).Nodup from by ac_nf) rfl (Or.inl rfl))) (fun _ _ _=>By) (fun _ _ _=>(Eu KThingIs (hr.mono (by decide)) rfl (Aa (Bc Ys Dc (Bc Bw (pv 0) Ao)) Ah))))
   (Aj (Cs (NC:=["_law_k", "_law_start", "_law_gap"]) (own:=["_law_k"]) (cs:=["_law_start", "_law_gap"]) (ix:=[1,2]) (j:=6) sc.nd rfl rfl rfl (CompScope.of rfl) rfl ⟨⟨rfl,.inl rfl,rfl⟩,⟨⟨rfl,.inl rfl,rfl⟩,trivial⟩⟩ (Dl rfl T.n_range (Aa (Be Bx (pv 0) Ao (fun _ _=>rfl)) Ah)) (fun _ _ _=>(Ax (i:=0) (show (["_law_k", "_law_start", "_law_gap"]:List Str).Nodup from by ac_nf) rfl (Or.inl rfl))) (fun _ _ _=>By) (fun _ _ _=>(Eu KDaysIn (hr.mono (by decide)) rfl (Aa (Bc Bw (pv 1) (Bc Em (pv 2) (pv 0))) (Aa (Bc Vj Ao Ao) Ah)))))
   (Aj (Cs (NC:=["_law_k", "_law_start", "_law_gap"]) (own:=["_law_k"]) (cs:=["_law_start", "_law_gap"]) (ix:=[1,2]) (j:=7) sc.nd rfl rfl rfl (CompScope.of rfl) rfl ⟨⟨rfl,.inl rfl,rfl⟩,⟨⟨rfl,.inl rfl,rfl⟩,trivial⟩⟩ (Dl rfl T.n_range (Aa (Be Bx (pv 0) Ao (fun _ _=>rfl)) Ah)) (fun _ _ _=>(Ax (i:=0) (show (["_law_k", "_law_start", "_law_gap"]:List Str).Nodup from by ac_nf) rfl (Or.inl rfl))) (fun _ _ _=>By) (fun _ _ _=>(Eu KOver (hr.mono (by decide)) rfl (Aa (Bc Bw (pv 1) (Bc Em (pv 2) (pv 0))) Ah))))
   (Aj (Ba (i:=8) sc.nd rfl (Or.inl rfl) (Bp Ah))
   (Aj (Cg PassesOwn.never rfl (Dl rfl T.n_range (Aa Ao Ah)) (Ax (i:=9) sc.nd rfl (Or.inl rfl))
    (An (Ck (Fu PySem.F.plainAttrs_list PySem.F.slot_list_append PySem.F.type_list_append Ek (pv 8) (Aa (Eu KCover (hr.mono (by decide)) rfl (Aa (Be Z0 Dc (pv 9) (fun _ _=>rfl)) (Aa (Av C_law_some (hr.mono (by decide)) rfl (Aa (Be Bx (Bp (Aa (pv 4) (Aa (pv 5) (Aa (pv 6) (Aa (pv 7) Ah))))) (pv 9) (fun _ _=>rfl)) Ah)) (Aa Gb (Aa Gb (Aa (Eh Gg (pv 3) (pv 9) (Bf _)) Ah)))))) Ah)))))
   (An (Az (Eu KBook (hr.mono (by decide)) rfl (Aa (pv 8) Ah)))))))))),?_⟩
 have sl:=zCv;have cm:∀ i:Nat,i<7->CMul gp (0+(i:Int)):=fun i hi=>.inr ⟨by lia,by lia⟩;refine (vE rfl (vI rfl rfl hz rfl ⟨_,rfl,by lia,by lia,fun r1 nr1=>?_⟩));refine Dx (lo:=0) (n:=a) (fun i ys H6=>CdsAt (A8.mk Ab Ad Ae Ag Al Am Ac Ak) H6 ys (Jo (Xo st) i)/\H6 r1=some (.lst ys)/\Same H H6) ⟨by unfold Jo CdsAt; trivial,Af,Ai nr1 _⟩
  (fun i ys H6 _ ⟨cd,h1,_⟩=>⟨h1,by rw[cd.len,Ll]; exact zAf _⟩) (by lia) (fun i ys H6 hi ⟨cd,h1,s2⟩=>?_) (fun ys1 H1 ⟨cd1,h1,s1⟩=>?_)
 ·refine (vE rfl (vE rfl (vE rfl (vF rfl rfl (vE rfl (vF rfl rfl ⟨(by show (0:Int)<2; decide),vF rfl rfl (vE rfl (vE rfl ⟨by ac_nf,fun x dx nx ndx nex=>⟨x,dx,_,rfl,Af,rfl,?_⟩⟩))⟩))))))
  have sx:=Qf (C:=Ad) (fs:=Hb ((Xo st) (0+(i:Int)))) nx ndx;exact⟨sx _ _ h1,rfl,Lr (g:=Xo st) cd (sx _ _ h1) sx Af,Af,Bj nr1 (s2.trans sx)⟩
 refine Dt [some (.ref z),some (.int st),some (.int gp),some (.int wt),some (.ref r1),none,none,none,none,none] rfl ?_;have S1:=s1;refine (vE rfl (vI rfl rfl (S1.seq hz) rfl ⟨_,rfl,by lia,by lia,fun r2 nr2=>?_⟩));refine Dx (lo:=0) (n:=b) (fun i ys H6=>CdsAt (A8.mk Ab Ad Ae Ag Al Am Ac Ak) H6 ys (Jo (Vq) i)/\H6 r2=some (.lst ys)/\Same H1 H6) ⟨by unfold Jo CdsAt; trivial,Af,Ai nr2 _⟩
  (fun i ys H6 _ ⟨cd,h1,_⟩=>⟨h1,by rw[cd.len,Ll]; exact zAf _⟩) (by lia) (fun i ys H6 hi ⟨cd,h1,s2⟩=>?_) (fun ys2 H2 ⟨cd2,h2,s2⟩=>?_)
 ·refine (vE rfl (vF rfl rfl ⟨[104],_,rfl,rfl,by lia,by lia,by decide,fun x dx nx ndx nex=>⟨x,dx,_,rfl,Af,rfl,?_⟩⟩))
  have sx:=Qf (C:=Ae) (fs:=Hb ((Vq) (0+(i:Int)))) nx ndx;exact⟨sx _ _ h1,rfl,Lr (g:=Vq) cd (sx _ _ h1) sx Af,Af,Bj nr2 (s2.trans sx)⟩
 refine Dt [some (.ref z),some (.int st),some (.int gp),some (.int wt),some (.ref r1),some (.ref r2),none,none,none,none] rfl ?_;have S2:=S1.trans s2;refine (vE rfl (vI rfl rfl (S2.seq hz) rfl ⟨_,rfl,by lia,by lia,fun r3 nr3=>?_⟩));refine Dx (lo:=0) (n:=c) (fun i ys H6=>CdsAt (A8.mk Ab Ad Ae Ag Al Am Ac Ak) H6 ys (Jo (Zn st gp) i)/\H6 r3=some (.lst ys)/\Same H2 H6) ⟨by unfold Jo CdsAt; trivial,Af,Ai nr3 _⟩
  (fun i ys H6 _ ⟨cd,h1,_⟩=>⟨h1,by rw[cd.len,Ll]; exact zAf _⟩) (by lia) (fun i ys H6 hi ⟨cd,h1,s2⟩=>?_) (fun ys3 H3 ⟨cd3,h3,s3⟩=>?_)
 ·refine (vE rfl (vE rfl (vE rfl (vF rfl rfl ⟨cm i (by lia),vF rfl rfl (vF rfl rfl ⟨⟨by decide,by decide,by decide⟩,fun x dx nx ndx nex=>⟨x,dx,_,_,rfl,Af,fun H7 kb hx=>⟨rfl,?_⟩⟩⟩)⟩))))
  have sx:Same H6 H7:=Ea (C:=Ag) nx ndx fun b o e n=>by rw[kb b n]; exact e
  exact⟨sx _ _ h1,rfl,Lr (g:=Zn st gp) cd (sx _ _ h1) sx hx,Af,Bj nr3 (s2.trans sx)⟩
 refine Dt [some (.ref z),some (.int st),some (.int gp),some (.int wt),some (.ref r1),some (.ref r2),some (.ref r3),none,none,none] rfl ?_;have S3:=S2.trans s3;refine (vE rfl (vI rfl rfl (S3.seq hz) rfl ⟨_,rfl,by lia,by lia,fun r4 nr4=>?_⟩));refine Dx (lo:=0) (n:=d) (fun i ys H6=>CdsAt (A8.mk Ab Ad Ae Ag Al Am Ac Ak) H6 ys (Jo (Yk st gp) i)/\H6 r4=some (.lst ys)/\Same H3 H6) ⟨by unfold Jo CdsAt; trivial,Af,Ai nr4 _⟩
  (fun i ys H6 _ ⟨cd,h1,_⟩=>⟨h1,by rw[cd.len,Ll]; exact zAf _⟩) (by lia) (fun i ys H6 hi ⟨cd,h1,s2⟩=>?_) (fun ys4 H4 ⟨cd4,h4,s4⟩=>?_)
 ·refine (vE rfl (vE rfl (vE rfl (vF rfl rfl ⟨cm i (by lia),vF rfl rfl (fun x dx nx ndx nex=>⟨x,dx,_,rfl,Af,rfl,?_⟩)⟩))))
  have sx:=Qf (C:=Al) (fs:=Hb ((Yk st gp) (0+(i:Int)))) nx ndx;exact⟨sx _ _ h1,rfl,Lr (g:=Yk st gp) cd (sx _ _ h1) sx Af,Af,Bj nr4 (s2.trans sx)⟩
 refine Dt [some (.ref z),some (.int st),some (.int gp),some (.int wt),some (.ref r1),some (.ref r2),some (.ref r3),some (.ref r4),none,none] rfl ?_;have S4:=S3.trans s4;have h1':=s4 _ _ (s3 _ _ (s2 _ _ h1));have h2':=s4 _ _ (s3 _ _ h2);have h3':=s4 _ _ h3;have four:∀ i:Nat,i<4->∃ l us g m,Zb [V.ref r1,.ref r2,.ref r3,.ref r4] (0+(i:Int))=some (.ref l)/\H4 l=some (.lst us)/\CdsAt (A8.mk Ab Ad Ae Ag Al Am Ac Ak) H4 us (Jo g m)/\m<=7/\[marksTs (Jo (Xo st) a),marksTs (Jo Vq b),marksTs (Jo (Zn st gp) c),marksTs (Jo (Yk st gp) d)][i]?=some (marksTs (Jo g m)):=fun i hi=>by
  have z:i=0\/i=1\/i=2\/i=3:=by lia
  rcases z with rfl | rfl | rfl | rfl
  ·exact⟨r1,ys1,Xo st,a,rfl,h1',CdsAt.same (s2.trans (s3.trans s4)) _ cd1,a7,rfl⟩
  ·exact⟨r2,ys2,Vq,b,rfl,h2',CdsAt.same (s3.trans s4) _ cd2,b7,rfl⟩
  ·exact⟨r3,ys3,Zn st gp,c,rfl,h3',CdsAt.same s4 _ cd3,c7,rfl⟩
  ·exact⟨r4,ys4,Yk st gp,d,rfl,h4,cd4,d7,rfl⟩
 generalize eM:[marksTs (Jo (Xo st) a),marksTs (Jo Vq b),marksTs (Jo (Zn st gp) c),marksTs (Jo (Yk st gp) d)]=mL at four;refine⟨zAk _,fun cv ncv=>?_⟩;refine Dt [some (.ref z),some (.int st),some (.int gp),some (.int wt),some (.ref r1),some (.ref r2),some (.ref r3),some (.ref r4),some (.ref cv),none] rfl ?_;have s5:=Ai ncv (.lst []);have h5:upd H4 cv (.lst []) cv=some (.lst []):=Af;generalize upd H4 cv (.lst [])=H5 at s5 h5;refine⟨_,rfl,by decide,by decide,?_⟩;refine Td (lo:=0) (n:=4) (fun i σ H6=>(∃ o,σ=[some (.ref z),some (.int st),some (.int gp),some (.int wt),some (.ref r1),some (.ref r2),some (.ref r3),some (.ref r4),some (.ref cv),o])/\Same H4 H6/\∃ cs:List Cw,H6 cv=some (.lst (cs.map Sa))/\cs.map (·.nm)=nmL.take i/\cs.map (fun x=>Bv x.t)=mL.take i/\∀ x∈cs,CwAt (A8.mk Ab Ad Ae Ag Al Am Ac Ak) Ac (hid H6 cv) x)
  ⟨⟨none,rfl⟩,s5,[],h5,rfl,rfl,fun _ h=>(nomatch h)⟩ ?_ ?_
 ·rintro i σ H6 hi ⟨⟨o,rfl⟩,s6,cs,h6,nm6,mk6,all6⟩
  obtain⟨l,us,g,m,el,hl,cd,m7,em⟩:=four i hi;obtain⟨ch,ec,en,el8,ens,enl⟩:=Z6 hi;refine Dt [some (.ref z),some (.int st),some (.int gp),some (.int wt),some (.ref r1),some (.ref r2),some (.ref r3),some (.ref r4),some (.ref cv),some (.int (0+(i:Int)))] rfl ?_;refine (vE rfl ⟨.inl ⟨rfl,_,SqL.of h6⟩,vE rfl ⟨_,_,ch,rfl,rfl,by ac_nf,ec,vE rfl (vE rfl (vE rfl (vE rfl ⟨Bk (by show 4<=1000; decide),fun l4 nl4=>vE rfl (vI rfl rfl (SqL.of Af) el ?_)⟩)))⟩⟩);have s7:=s6.trans (Ai nl4 (.lst [V.ref r1,.ref r2,.ref r3,.ref r4]));have h7:=Ai nl4 (.lst [V.ref r1,.ref r2,.ref r3,.ref r4]) _ _ h6;have k7:=Ai nl4 (.lst [V.ref r1,.ref r2,.ref r3,.ref r4]);generalize upd H6 l4 (.lst [V.ref r1,.ref r2,.ref r3,.ref r4])=H7 at s7 h7 k7;refine⟨l,us,_,rfl,s7 _ _ hl,CdsAt.same s7 _ cd,by rw[Ll]; exact m7,U6 g m,fun v t H8 s8 hd nt em8=>?_⟩;refine (vE rfl (vE rfl ⟨rfl,fun p dp np ndp nep=>?_⟩));refine⟨p,dp,⟨#[ch]⟩,v,_,rfl,Af,⟨en,el8,ens⟩,fun H9 cl d0 fs kb hp f1 f2 f3 f4 f5 hcl ncl=>⟨rfl,?_⟩⟩;have s9:Same H8 H9:=Ea np ndp kb;have h9:=s9 _ _ (s8 _ _ h7);have pcv:p≠cv:=fun e=>by rw[e,s8 _ _ h7] at np; cases np
  have ccv:cl≠cv:=fun e=>by
   have z:upd (upd H8 dp (.own p)) p (.ins Ac dp []) cv=some (.lst (cs.map Sa)):=by rw[Aq (Ne.symm pcv),Aq (Ap (s8 _ _ h7) ndp)]; exact s8 _ _ h7
   rw[e,z] at ncl;cases ncl
  have lc:cs.length=i:=by
   have:=congrArg List.length nm6;rw[zAb,zAK] at this;have e4:nmL.length=4:=rfl
   lia
  refine⟨cv,_,_,rfl,rfl,h9,by rw[zAb]; lia,⟨_,rfl⟩,Bj ncv (s7.trans (s8.trans s9)),cs++[⟨p,⟨#[ch]⟩,t,decide (V.int wt=V.int (0+(i:Int)))⟩],by rw[Af,zAz]; rfl,?_,?_,fun x hx=>?_⟩
  ·rw[zAz,nm6,Dd enl]
   rfl
  ·rw[zAz,mk6,Dd em,<- em8]
   rfl
  ·rcases zAy.mp hx with h | h
   ·refine (all6 x h).same (Vw fun b o n e=>?_)
    rw[Aq n];exact s9 _ _ (s8 _ _ (k7 _ _ e))
   ·rw[zAg.mp h]
    refine⟨d0,fs,v,cl,?_,f1,f2,f3,f4,f5,?_,nt,?_⟩
    ·show hid _ cv p=_
     rw[He pcv,Aq pcv];exact hp
    ·refine CdAt.same (Vw fun b o n e=>?_) _ (hd cv _ h7)
     rw[Aq n];exact s9 _ _ e
    ·rw[He ccv,Aq ccv]
     exact hcl
 ·rintro σ H6 ⟨⟨o,rfl⟩,s6,cs,h6,nm6,mk6,all6⟩
  have e1:cs.map (·.nm)=nmL:=nm6;have e2:cs.map (fun x=>Bv x.t)=mL:=by rw[mk6,<- eM]; rfl
  have l4:cs.length=4:=by rw[<- zAb (f:=fun x:Cw=>x.nm),e1]; rfl
  refine (vE rfl (fun p dp np ndp nep=>?_));have s7:Same H6 (upd (upd H6 dp (.own p)) p (.ins As dp [])):=Ea (C:=As) np ndp fun b o e _=>e;have all7:∀ x∈cs,CwAt (A8.mk Ab Ad Ae Ag Al Am Ac Ak) Ac H6 x:=fun x hx=>(all6 x hx).same (Q6 H6 cv);refine⟨p,dp,cv,cs.map BI,rfl,Af,?_,(EM all7).same s7,by rw[zAb]; lia,?_,fun cl ak H8 kb bk ncl nak=>⟨rfl,?_⟩⟩
  ·rw[s7 _ _ h6,BV]
  ·rw[List.map_map]
   show (cs.map (·.nm)).Nodup;rw[e1];exact GQ
  ·have s8:Same H6 H8:=Ea np ndp kb
   obtain⟨⟨dx,fs,b1,b2,b3,_⟩,hc,hak⟩:=bk;refine q p cs H8 (S4.trans (s6.trans s8)) ⟨dx,fs,cl,ak,b1,b2,b3,by rw[hc,BV],by rw[hak,EE],fun x hx=>(all7 x hx).same s8⟩ l4 ?_;unfold mB Ku;rw[e2,<- eM];simp
end
theorem Jf {so:Str} {ms:List Ot} {v:V}:v∈Bz so ms↔(so,v)∈ms:=⟨Ml,fun h=>by
 unfold Bz;exact zAR.mpr ⟨(so,v),zBb.mpr ⟨h,decide_eq_true rfl⟩,rfl⟩⟩
theorem U7:∀ {ts:List Cnd} {m:Ot},m∈marksTs ts↔∃ t∈ts,m∈Bv t
 | [],m=>by unfold marksTs; simp
 | t::ts,m=>by
  unfold marksTs;rw[zAy,U7];simp
theorem Cz {g:Int->Co} {n:Nat} {m:Ot}:m∈marksTs (Jo g n)↔∃ k:Nat,k<n/\m∈Pt (g (0+(k:Int))):=by
 rw[U7];constructor
 ·rintro ⟨t,ht,hm⟩
  obtain⟨k,hk,rfl⟩:=zAR.mp ht;unfold Bv at hm;exact⟨k,zAS.mp hk,hm⟩
 ·rintro ⟨k,hk,hm⟩
  exact⟨_,zAR.mpr ⟨k,zAS.mpr hk,rfl⟩,by unfold Bv; exact hm⟩
theorem Eo {so so':Str} {u v:V} (n:so≠so') (h:(so,u)∈[((so',v):Ot)]):False:=n (Prod.mk.inj (zAg.mp h)).1
theorem Qd {so so':Str} {u v v':V} (n:so≠so') (h:(so,u)∈[((so',v):Ot),(so',v')]):False:=by
 rcases zAp.mp h with e | e
 ·exact n (Prod.mk.inj e).1
 ·exact Eo n e
section
variable {st gp:Int} {a b c d:Nat}
theorem K8 {y:Str}:V.str y∈Bz "cause" (Ku st gp a b c d)↔∃ k:Nat,k<a/\y=AX st (0+(k:Int)):=by
 rw[Jf];unfold Ku;rw[zAy,zAy,zAy,Cz,Cz,Cz,Cz];constructor
 ·rintro (⟨k,hk,h⟩ | ⟨k,hk,h⟩ | ⟨k,hk,h⟩ | ⟨k,hk,h⟩)
  ·exact⟨k,hk,V.str.inj (Prod.mk.inj (zAg.mp h)).2⟩
  ·exact (Eo (by ac_nf) h).elim
  ·exact (Qd (by ac_nf) h).elim
  ·exact (Eo (by ac_nf) h).elim
 ·rintro ⟨k,hk,rfl⟩
  exact .inl ⟨k,hk,zAg.mpr rfl⟩
theorem K4 {y:Str}:V.str y∈Bz "thing" (Ku st gp a b c d)↔∃ k:Nat,k<b/\y=DT (0+(k:Int)):=by
 rw[Jf];unfold Ku;rw[zAy,zAy,zAy,Cz,Cz,Cz,Cz];constructor
 ·rintro (⟨k,hk,h⟩ | ⟨k,hk,h⟩ | ⟨k,hk,h⟩ | ⟨k,hk,h⟩)
  ·exact (Eo (by ac_nf) h).elim
  ·exact⟨k,hk,V.str.inj (Prod.mk.inj (zAg.mp h)).2⟩
  ·exact (Qd (by ac_nf) h).elim
  ·exact (Eo (by ac_nf) h).elim
 ·rintro ⟨k,hk,rfl⟩
  exact .inr (.inl ⟨k,hk,zAg.mpr rfl⟩)
theorem Z3 {y:Int}:(V.int y∈Bz "day" (Ku st gp a b c d)/\1<=y/\y<=1000000)↔∃ k:Nat,k<c/\y=st+gp*(0+(k:Int))/\1<=y/\y<=1000000:=by
 rw[Jf];unfold Ku;rw[zAy,zAy,zAy,Cz,Cz,Cz,Cz];constructor
 ·rintro ⟨⟨k,hk,h⟩ | ⟨k,hk,h⟩ | ⟨k,hk,h⟩ | ⟨k,hk,h⟩,y1,y2⟩
  ·exact (Eo (by ac_nf) h).elim
  ·exact (Eo (by ac_nf) h).elim
  ·rcases zAp.mp h with e | e
   ·exact⟨k,hk,V.int.inj (Prod.mk.inj e).2,y1,y2⟩
   ·have:=V.int.inj (Prod.mk.inj (zAg.mp e)).2
    lia
  ·exact (Eo (by ac_nf) h).elim
 ·rintro ⟨k,hk,rfl,y1,y2⟩
  exact⟨.inr (.inr (.inl ⟨k,hk,zAo⟩)),y1,y2⟩
theorem N7 {y:Int}:V.int y∈Bz "cents" (Ku st gp a b c d)↔∃ k:Nat,k<d/\y=st+gp*(0+(k:Int)):=by
 rw[Jf];unfold Ku;rw[zAy,zAy,zAy,Cz,Cz,Cz,Cz];constructor
 ·rintro (⟨k,hk,h⟩ | ⟨k,hk,h⟩ | ⟨k,hk,h⟩ | ⟨k,hk,h⟩)
  ·exact (Eo (by ac_nf) h).elim
  ·exact (Eo (by ac_nf) h).elim
  ·exact (Qd (by ac_nf) h).elim
  ·exact⟨k,hk,V.int.inj (Prod.mk.inj (zAg.mp h)).2⟩
 ·rintro ⟨k,hk,rfl⟩
  exact .inr (.inr (.inr ⟨k,hk,zAg.mpr rfl⟩))
theorem Le {α:Type} [DecidableEq α] {l m:List α} (h1:l.Nodup) (h2:m.Nodup) (h:∀ x,x∈l↔x∈m):l.length=m.length:=Nat.le_antisymm (Gf h1 fun x hx=>(h x).mp hx) (Gf h2 fun x hx=>(h x).mpr hx)
theorem Ww {f:Nat->Str} (h:((zAN 7).map f).Nodup) {n:Nat} (l:n<=7):((zAN n).map f).Nodup:=by
 have e:(zAN n).map f=((zAN 7).map f).take n:=by
  rw[<- List.map_take,List.take_range,Nat.min_eq_left l]
 rw[e];exact h.sublist (List.take_sublist _ _)
theorem DO (st:Int) {n:Nat} (l:n<=7):((zAN n).map fun (k:Nat)=>AX st (0+(k:Int))).Nodup:=by
 refine Ww ?_ l;have z:st%2=0\/st%2=1:=by lia
 unfold AX;rcases z with e | e
 ·rw[e]
  decide +kernel
 ·rw[e]
  decide +kernel
theorem ES {n:Nat} (l:n<=7):((zAN n).map fun (k:Nat)=>DT (0+(k:Int))).Nodup:=Ww (by ac_nf) l
theorem BE {gp:Int} (st:Int) (g1:1<=gp) {i j:Nat} (h:i<j):st+gp*(0+(i:Int))<st+gp*(0+(j:Int)):=by
 have:=Int.mul_lt_mul_of_pos_left (show (0+(i:Int))<0+(j:Int) by lia) (show 0<gp by lia)
 lia
theorem R0 {gp:Int} (st:Int) (g1:1<=gp) {l:List Nat} (h:l.Pairwise (· < ·)):(l.map fun (k:Nat)=>st+gp*(0+(k:Int))).Nodup:=by
 rw[zBg,zBO];exact h.imp fun h=>Int.ne_of_lt (BE st g1 h)
theorem CA {l:List Int} (h:l.Pairwise (· < ·)):l.Nodup:=by
 rw[zBg];exact h.imp fun h=>Int.ne_of_lt h
theorem D6 {gp:Int} (st:Int) (s1:1<=st) (s2:st<=50000) (g1:1<=gp) (g2:gp<=50000) {k:Nat} (h:k<7):1<=st+gp*(0+(k:Int))/\st+gp*(0+(k:Int))<=1000000:=by
 have z:k=0\/k=1\/k=2\/k=3\/k=4\/k=5\/k=6:=by lia
 rcases z with rfl | rfl | rfl | rfl | rfl | rfl | rfl <;> constructor <;> lia
theorem Y3 {cs:List Cw} (e:mB cs=Ku st gp a b c d) (a7:a<=7) (b7:b<=7) (c7:c<=7) (s1:1<=st) (s2:st<=50000) (g1:1<=gp) (g2:gp<=50000):Wd cs ((a+1)*(b+1)*(c+1)):=by
 intro A B D nA mA nB mB' pD mD;rw[e] at mA mB' mD;have lA:A.length=a:=by
  rw[Le nA (DO st a7) fun y=>?_,zAb,zAY];rw[mA,K8,zAR];exact⟨fun ⟨k,hk,e⟩=>⟨k,zAS.mpr hk,e.symm⟩,fun ⟨k,hk,e⟩=>⟨k,zAS.mp hk,e.symm⟩⟩
 have lB:B.length=b:=by
  rw[Le nB (ES b7) fun y=>?_,zAb,zAY];rw[mB',K4,zAR];exact⟨fun ⟨k,hk,e⟩=>⟨k,zAS.mpr hk,e.symm⟩,fun ⟨k,hk,e⟩=>⟨k,zAS.mp hk,e.symm⟩⟩
 have lD:D.length=c:=by
  rw[Le (CA pD) (R0 st g1 List.pairwise_lt_range) fun y=>?_,zAb,zAY];rw[mD,Z3,zAR];refine⟨fun ⟨k,hk,e,_⟩=>⟨k,zAS.mpr hk,e.symm⟩,fun ⟨k,hk,e⟩=>⟨k,zAS.mp hk,e.symm,?_⟩⟩;rw[<- e];exact D6 st s1 s2 g1 g2 (zAq (zAS.mp hk) c7)
 rw[lA,lB,lD]
def Kt (st gp bd:Int) (n:Nat):List Nat:=(zAN n).filter fun (k:Nat)=>decide (st+gp*(0+(k:Int))<bd)
theorem Q3 {cs:List Cw} {bd:Int} (e:mB cs=Ku st gp a b c d) (d7:d<=7) (s1:1<=st) (s2:st<=50000) (g1:1<=gp) (g2:gp<=50000):Ws cs bd (Kt st gp bd d).length:=by
 intro E pE mE;rw[e] at mE;rw[<- zAb (f:=fun (k:Nat)=>st+gp*(0+(k:Int)))];refine Le ((CA pE).sublist List.filter_sublist) (R0 st g1 (List.pairwise_lt_range.sublist List.filter_sublist)) fun y=>?_;unfold Kt;rw[zBb,mE,N7,zAR,decide_eq_true_eq];constructor
 ·rintro ⟨⟨k,hk,e⟩,y1,y2⟩
  exact⟨k,zBb.mpr ⟨zAS.mpr hk,decide_eq_true (by rw[<- e]; exact y2)⟩,e.symm⟩
 ·rintro ⟨k,hk,e⟩
  obtain⟨h1,h2⟩:=zBb.mp hk;have h1:=zAS.mp h1;have h2:=of_decide_eq_true h2;rw[e] at h2;refine⟨⟨k,h1,e.symm⟩,?_,h2⟩;rw[<- e];exact (D6 st s1 s2 g1 g2 (zAq h1 d7)).1
theorem Xk:marksTs []=[]:=by unfold marksTs; rfl
theorem Kx (t:Cnd) (ts:List Cnd):marksTs (t::ts)=Bv t++marksTs ts:=by rw[marksTs]
theorem Nt:∀ (ts us:List Cnd),marksTs (ts++us)=marksTs ts++marksTs us
 | [],us=>by rw[Xk,List.nil_append,List.nil_append]
 | t::ts,us=>by rw[List.cons_append,Kx,Kx,Nt ts us,zBH]
theorem AG {cs:List Cw} (e:mB cs=Ku st gp a b c d) (a7:a<=7) (b7:b<=7) (c7:c<=7) (d7:d<=7):(mB cs).length<=60:=by
 have one:∀ (g:Int->Co) (n m:Nat),(∀ k,(Pt (g k)).length<=m)->(marksTs (Jo g n)).length<=n*m:=fun g n m h=>by
  induction n with
  | zero=>
   unfold Jo;rw[List.range_zero,List.map_nil];unfold marksTs;exact zAk _
  | succ n ih=>
   rw[Xm,Nt,zAi,zBK];have h2:=h (0+(n:Int));have:(marksTs [Cnd.at (g (0+(n:Int)))]).length=(Pt (g (0+(n:Int)))).length:=by
    unfold marksTs marksTs Bv;rw[zAJ]
   lia
 rw[e];unfold Ku;rw[zAi,zAi,zAi];have h1:=one (Xo st) a 1 fun k=>zAf _;have h2:=one Vq b 1 fun k=>zAf _;have h3:=one (Zn st gp) c 2 fun k=>zAf _;have h4:=one (Yk st gp) d 1 fun k=>zAf _
 lia
end
theorem V2 {i:Nat} {v:Int} {nx:St->Hp->Prop} {σ:St} {H:Hp} (lo hi:Int) (h0:lo<=v/\v<=hi) (h:∀ x:Int,lo<=x->x<=hi->Df i (.int x) σ H nx):Df i (.int v) σ H nx:=h v h0.1 h0.2
theorem IR {i:Nat} {v:V} {nx:St->Hp->Prop} {σ:St} {H:Hp} (σ':St) (H':Hp) (e:σ.set i (some v)=σ') (eH:H=H') (h:nx σ' H'):Df i v σ H nx:=by
 unfold Df;rw[e,eH];exact h
theorem TyOf.same {K:zAa} {H H':Hp} {x:V} {T:String} (t:TyOf K H x (.type T)) (s:Same H H'):TyOf K H' x (.type T):=by
 cases t with
 | non=>exact .non
 | bl b=>exact .bl b
 | int i=>exact .int i
 | str i=>exact .str i
 | flt i=>exact .flt i
 | lst e=>exact .lst (s _ _ e)
 | frz e=>exact .frz (s _ _ e)
 | tup e=>exact .tup (s _ _ e)
 | dK e=>exact .dK (s _ _ e)
 | dT e=>exact .dT (s _ _ e)
theorem FM {x y:V} {A B:Prop} (e:x=y) (h:B):if (!decide (x=y))=true then A else B:=by
 rw[decide_eq_true e];exact Dk h
theorem AR (n:Nat):V.int (if 120<n then 1 else 0)=V.int (if decide ((120:Int)<(n:Int))=true then 1 else 0):=by
 by_cases c:120<n
 ·rw[if_pos c,if_pos (decide_eq_true (by lia))]
 ·rw[if_neg c,if_neg (by rw[decide_eq_false (by lia)]; exact zAr)]
theorem B3 (st gp bd:Int) (i:Nat):Kt st gp bd (i+1)=Kt st gp bd i++if st+gp*(0+(i:Int))<bd then [i] else []:=by
 unfold Kt;rw[List.range_succ,zBv];by_cases c:st+gp*(0+(i:Int))<bd
 ·rw[if_pos c,zBA (by exact decide_eq_true c),zBe]
 ·rw[if_neg c,zBB (by rw[decide_eq_false c]; exact zAr),zBe]
theorem E3 {i:Int} (h:i<1\/999999999999<i):Zl (.int i)=false:=by
 cases z:Zl (.int i) with
 | false=>rfl
 | true=>
  unfold Zl FO at z;have h1:=Bool.and_eq_true_iff.mp z;have h2:=of_decide_eq_true h1.1;have h3:=of_decide_eq_true h1.2;omega
theorem CP {i:Int} (h1:1<=i) (h2:i<=999999999999):Zl (.int i)=true:=by
 unfold Zl FO;exact Bool.and_eq_true_iff.mpr ⟨decide_eq_true ⟨by lia,h2⟩,decide_eq_true h1⟩
def P1 (bd:Int) (p:Addr):List V:=[.int 0,.int (-1-bd),.int ((10:Int)^(12:Int).toNat+bd%7),.non,.bl true,.str "1.00",.ref p,.int ((10:Int)^(12:Int).toNat)]
theorem CQ {K:zAa} {H:Hp} {p:Addr} {xs:List V} {bd i:Int} (hp:H p=some (.lst xs)) (b1:1<=bd) (h0:0<=i) (h:i<8):∃ x T,Zb (P1 bd p) i=some x/\Zl x=false/\TyOf K H x (.type T):=by
 have e12:(10:Int)^(12:Int).toNat=1000000000000:=by ac_nf
 have z:i=0\/i=1\/i=2\/i=3\/i=4\/i=5\/i=6\/i=7:=by lia
 rcases z with rfl | rfl | rfl | rfl | rfl | rfl | rfl | rfl
 ·exact⟨_,_,rfl,E3 (by lia),.int _⟩
 ·exact⟨_,_,rfl,E3 (by lia),.int _⟩
 ·exact⟨_,_,rfl,E3 (by rw[e12]; lia),.int _⟩
 ·exact⟨_,_,rfl,rfl,.non⟩
 ·exact⟨_,_,rfl,rfl,.bl _⟩
 ·exact⟨_,_,rfl,rfl,.str _⟩
 ·exact⟨_,_,rfl,rfl,.lst hp⟩
 ·exact⟨_,_,rfl,E3 (by rw[e12]; lia),.int _⟩
def D4 (K:zAa):Sp:=fun vs H Q _=>∃ (a:Addr) (ns:List Int),vs=[.ref a]/\SqL K H a (ns.map V.int)/\ns.length<=63/\∀ H',Q (.bl true) H'
section
variable {P:Program} {w:World} {K:zAa} {mg:Str->Option Value} {base:Heap} {Ab Ad Ae Ag Al Ak Am Ac As At:Addr} {Bq Cq Ay De Cm Cb Au:Addr}
theorem EQ:Aw ["_law_script", "_law_sizes", "_law_start", "_law_gap", "_law_book_here", "_law_bound", "_law_wide", "_law_cuts", "_law_bad"] ["_law_script"] (Ar Qn):=by injections
theorem EX {f:Addr} {fd:zCx} (F:Fun K "law" "law" Qn f fd) (T:Txt K mg) (C_law_cell:Cr P w K mg base 1 "_law_cell" ["_law_script", "_law_k"] (Zk K)) (C_law_book:Cr P w K mg base 8 "_law_book" ["_law_sizes", "_law_start", "_law_gap", "_law_waits"] (W5 K (A8.mk Ab Ad Ae Ag Al Am Ac Ak) Ac As))
  (C_law_refused:Cr P w K mg base 9 "_law_refused" ["_law_way", "_law_book_here", "_law_bound"] (Q8 K (A8.mk Ab Ad Ae Ag Al Am Ac Ak) Ac As)) (Ccells_of:Cr P w K mg base 5 "cells_of" ["book"] (fun vs H Q _=>Jd (A8.mk Ab Ad Ae Ag Al Am Ac Ak) Ac As Au vs H Q E0)) (Cpaper_of:Cr P w K mg base 7 "paper_of" ["book", "bound"] (fun vs H Q _=>Ky K (A8.mk Ab Ad Ae Ag Al Am Ac Ak) Ac As Ay Au vs H Q E0))
  (Cstretches_of:Cr P w K mg base 5 "stretches_of" ["book", "bound"] (F3 (A8.mk Ab Ad Ae Ag Al Am Ac Ak) Ac As)):FnOk P w K mg base Da 10 f fd ["_law_script"] (D4 K):=by
 have sc:=EQ;bv_omega
 ·obtain⟨_,_,rfl,_⟩:=h
  rfl
 obtain⟨a,ns,rfl,ha,h63,q⟩:=h;refine⟨_,(Aj (Cs (NC:=["_law_k", "_law_script"]) (own:=["_law_k"]) (cs:=["_law_script"]) (ix:=[0]) (j:=1) sc.nd rfl rfl rfl (CompScope.of rfl) rfl ⟨⟨rfl,.inl rfl,rfl⟩,trivial⟩ (Dl rfl T.n_range (Aa Ao Ah)) (fun _ _ _=>(Ax (i:=0) (show (["_law_k", "_law_script"]:List Str).Nodup from by ac_nf) rfl (Or.inl rfl))) (fun _ _ _=>By) (fun _ _ _=>(Bc Gk (Av C_law_cell (hr.mono (by decide)) rfl (Aa (pv 1) (Aa (pv 0) Ah))) Ao)))
   (Aj (Ba (i:=2) sc.nd rfl (Or.inr rfl) (Bc Bw Ao (Bc Gk (Av C_law_cell (hr.mono (by decide)) rfl (Aa (pv 0) (Aa Ao Ah))) Ao)))
   (Aj (Ba (i:=3) sc.nd rfl (Or.inr rfl) (Bc Bw Ao (Bc Gk (Av C_law_cell (hr.mono (by decide)) rfl (Aa (pv 0) (Aa Ao Ah))) Ao)))
   (Aj (Ba (i:=4) sc.nd rfl (Or.inl rfl) (Av C_law_book (hr.mono (by decide)) rfl (Aa (pv 1) (Aa (pv 2) (Aa (pv 3) (Aa (Bc Gk (Av C_law_cell (hr.mono (by decide)) rfl (Aa (pv 0) (Aa Ao Ah))) Ao) Ah))))))
   (Aj (Ba (i:=5) sc.nd rfl (Or.inr rfl) (Bc Bw Ao (Bc Gk (Av C_law_cell (hr.mono (by decide)) rfl (Aa (pv 0) (Aa Ao Ah))) (Be Bx (Bp (Aa Ao (Aa (Bc Ic (Bc Vj Ao Ao) Ao) Ah))) (Bc Gk (Av C_law_cell (hr.mono (by decide)) rfl (Aa (pv 0) (Aa Ao Ah))) Ao) (fun _ _=>rfl)))))
   (Aj (Ba (i:=6) sc.nd rfl (Or.inl rfl) (Bc Em (Bc Em (Bc Bw (Be Bx (pv 1) Ao (fun _ _=>rfl)) Ao) (Bc Bw (Be Bx (pv 1) Ao (fun _ _=>rfl)) Ao)) (Bc Bw (Be Bx (pv 1) Ao (fun _ _=>rfl)) Ao)))
   (Aj (Ba (i:=7) sc.nd rfl (Or.inl rfl) (Bb Bh rfl T.n_len (show zCw _=some (.builtin "len") from rfl) (Aa (Cj (NC:=["_law_k", "_law_bound", "_law_start", "_law_gap"]) (own:=["_law_k"]) (cs:=["_law_bound", "_law_start", "_law_gap"]) (ix:=[5,2,3]) rfl (CompScope.of rfl) rfl ⟨⟨rfl,.inl rfl,rfl⟩,⟨⟨rfl,.inl rfl,rfl⟩,⟨⟨rfl,.inl rfl,rfl⟩,trivial⟩⟩⟩ (Dl rfl T.n_range (Aa (Be Bx (pv 1) Ao (fun _ _=>rfl)) Ah)) (fun _ _ _=>(Ax (i:=0) (show (["_law_k", "_law_bound", "_law_start", "_law_gap"]:List Str).Nodup from by ac_nf) rfl (Or.inl rfl))) (fun _ _ _=>(Ef (Bd Hx (Bc Bw (pv 2) (Bc Em (pv 3) (pv 0))) (pv 1) (Bf _)))) (fun _ _ _=>(pv 0))) Ah)))
   (Aj (Ba (i:=8) sc.nd rfl (Or.inl rfl) (Be Bx (Bp (Aa Ao (Aa (Bc Ic (Xp Pl Ao) (pv 5)) (Aa (Bc Bw (Bc Vj Ao Ao) (Bc Gk (pv 5) Ao)) (Aa Gb (Aa Dr (Aa Dc (Aa (Bp (Aa (pv 5) Ah)) (Aa (Bc Vj Ao Ao) Ah))))))))) (Bc Gk (Av C_law_cell (hr.mono (by decide)) rfl (Aa (pv 0) (Aa Ao Ah))) Ao) (fun _ _=>rfl)))
   (Aj (Cd (PW.pt (Qa (Bd Sf (Av C_law_refused (hr.mono (by decide)) rfl (Aa Ao (Aa (pv 4) (Aa (pv 5) Ah)))) (El Th rfl T.n_int (show zCw _=some (.type "int") from rfl) (Aa (Eh Ie (pv 6) Ao (Bf _)) Ah)) (Bf _)) (Mc (Bd Sf (Av C_law_refused (hr.mono (by decide)) rfl (Aa Ao (Aa (pv 4) (Aa (pv 8) Ah)))) Ao (Bf _)))))
    (An (Az Dr))
    Bm)
   (Aj (Cd (Bd Ie (Bc Em (pv 6) (Bc Bw (pv 7) Ao)) Ao (Bf _))
    (An (Cd (Bd Sf (Av C_law_refused (hr.mono (by decide)) rfl (Aa Ao (Aa (pv 4) (Aa (pv 5) Ah)))) Ao (Bf _))
    (An (Az Dr))
    Bm))
    (An (Cd (Bd Sf (Bb Bh rfl T.n_len (show zCw _=some (.builtin "len") from rfl) (Aa (Av Cpaper_of (hr.mono (by decide)) rfl (Aa (pv 4) (Aa (pv 5) Ah))) Ah)) (Bc Em (pv 6) (Bc Bw (pv 7) Ao)) (Bf _))
    (An (Az Dr))
    Bm)))
   (Aj (Cd (PW.pt (Uz (Bd Ij (pv 6) Ao (Bf _)) (Om (Bd Sf (Bb Bh rfl T.n_len (show zCw _=some (.builtin "len") from rfl) (Aa (Av Ccells_of (hr.mono (by decide)) rfl (Aa (pv 4) Ah)) Ah)) (pv 6) (Bf _)))))
    (An (Az Dr))
    Bm)
   (Aj (Cd (Bd Sf (Bb Bh rfl T.n_len (show zCw _=some (.builtin "len") from rfl) (Aa (Av Cstretches_of (hr.mono (by decide)) rfl (Aa (pv 4) (Aa (pv 5) Ah))) Ah)) (Bc Bw (pv 7) Ao) (Bf _))
    (An (Az Dr))
    Bm)
   (An (Az (Qt (Eh Gg (Av C_law_refused (hr.mono (by decide)) rfl (Aa Ao (Aa (pv 4) (Aa (pv 5) Ah)))) (El Th rfl T.n_int (show zCw _=some (.type "int") from rfl) (Aa (Eh Ie (pv 6) Ao (Bf _)) Ah)) (Bf _)) (Qv (Eh Gg (Av C_law_refused (hr.mono (by decide)) rfl (Aa Ao (Aa (pv 4) (Aa (pv 8) Ah)))) Ao (Bf _)))))))))))))))))),?_⟩
 have sl:=zCv;have m0:∀ (x:Int) {m:Int},0<m->0<=x%m:=fun x m h=>Int.emod_nonneg _ (by lia);have m1:∀ (x:Int) {m:Int},0<m->x%m<m:=fun x m h=>Int.emod_lt_of_pos _ h;refine⟨_,rfl,by decide,by decide,fun r1 nr1=>?_⟩;refine Dx (lo:=0) (n:=4) (fun i ys H6=>ys=((zAN i).map fun (k:Nat)=>ns.getD (0+(k:Int)).toNat 0%8).map V.int/\H6 r1=some (.lst ys)/\Same H H6) ⟨rfl,Af,Ai nr1 _⟩
  (fun i ys H6 _ ⟨e,h1,_⟩=>⟨h1,by rw[e,zAb,zAb,zAY]; exact zAf _⟩) (by lia) (fun i ys H6 hi ⟨e,h1,s2⟩=>?_) (fun ys H1 ⟨e,h1,s1⟩=>?_)
 ·refine (vE rfl (vE rfl ⟨a,ns,_,rfl,s2.seq ha,by lia,h63,vF rfl rfl ⟨(by show (0:Int)<8; decide),h1,rfl,?_,Af,Bj nr1 s2⟩⟩))
  rw[List.range_succ,zAz,zAz,e];rfl
 obtain⟨a',ea⟩:=Int.eq_ofNat_of_zero_le (m0 (ns.getD (0+((0:Nat):Int)).toNat 0) (m:=8) (by decide));obtain⟨b',eb⟩:=Int.eq_ofNat_of_zero_le (m0 (ns.getD (0+((1:Nat):Int)).toNat 0) (m:=8) (by decide));obtain⟨c',ec⟩:=Int.eq_ofNat_of_zero_le (m0 (ns.getD (0+((2:Nat):Int)).toNat 0) (m:=8) (by decide));obtain⟨d',ed⟩:=Int.eq_ofNat_of_zero_le (m0 (ns.getD (0+((3:Nat):Int)).toNat 0) (m:=8) (by decide));have a7:a'<=7:=by have:=m1 (ns.getD (0+((0:Nat):Int)).toNat 0) (m:=8) (by decide); lia
 have b7:b'<=7:=by have:=m1 (ns.getD (0+((1:Nat):Int)).toNat 0) (m:=8) (by decide); lia
 have c7:c'<=7:=by have:=m1 (ns.getD (0+((2:Nat):Int)).toNat 0) (m:=8) (by decide); lia
 have d7:d'<=7:=by have:=m1 (ns.getD (0+((3:Nat):Int)).toNat 0) (m:=8) (by decide); lia
 have ez:ys=[.int (a':Int),.int (b':Int),.int (c':Int),.int (d':Int)]:=by
  rw[e,<- ea,<- eb,<- ec,<- ed];rfl
 clear e ea eb ec ed;subst ez;refine Dt [some (.ref a),some (.ref r1),none,none,none,none,none,none,none] rfl ?_;refine (vE rfl ⟨a,ns,4,rfl,s1.seq ha,by decide,h63,vF rfl rfl ⟨(by show (0:Int)<50000; decide),vF rfl rfl ?_⟩⟩);refine V2 1 50000 ⟨by have:=m0 (ns.getD (4:Int).toNat 0) (m:=50000) (by decide); lia,by have:=m1 (ns.getD (4:Int).toNat 0) (m:=50000) (by decide); lia⟩ fun st st1 st2=>?_;refine Dt [some (.ref a),some (.ref r1),some (.int st),none,none,none,none,none,none] rfl ?_;refine (vE rfl ⟨a,ns,5,rfl,s1.seq ha,by decide,h63,vF rfl rfl ⟨(by show (0:Int)<50000; decide),vF rfl rfl ?_⟩⟩);refine V2 1 50000 ⟨by have:=m0 (ns.getD (5:Int).toNat 0) (m:=50000) (by decide); lia,by have:=m1 (ns.getD (5:Int).toNat 0) (m:=50000) (by decide); lia⟩ fun gp gp1 gp2=>?_;refine Dt [some (.ref a),some (.ref r1),some (.int st),some (.int gp),none,none,none,none,none] rfl ?_;refine (vE rfl (vE rfl (vE rfl (vE rfl ⟨a,ns,6,rfl,s1.seq ha,by decide,h63,vF rfl rfl ⟨(by show (0:Int)<5; decide),⟨r1,a',b',c',d',st,gp,_,rfl,SqL.of h1,a7,b7,c7,d7,fun bk cs H2 s2 bw l4 em=>?_⟩⟩⟩))));refine Dt [some (.ref a),some (.ref r1),some (.int st),some (.int gp),some (.ref bk),none,none,none,none] rfl ?_;have l6:=AG em a7 b7 c7 d7;have wd:=Y3 em a7 b7 c7 st1 st2 gp1 gp2;have S2:=s1.trans s2;have h2:=s2 _ _ h1;have ha2:=S2.seq ha;clear h1 s1 s2 S2 nr1;refine (vE rfl ⟨a,ns,7,rfl,ha2,by decide,h63,vF rfl rfl ⟨⟨by decide,by decide,by decide⟩,vF rfl rfl ⟨Bk (by show 2<=1000; decide),fun p2 n2=>?_⟩⟩⟩)
 have s3:=Ai n2 (.lst [.int 400000,.int ((10:Int)^(12:Int).toNat-1)]);have mm:∃ m:Int,Zb [V.int 400000,.int ((10:Int)^(12:Int).toNat-1)] (ns.getD (8:Int).toNat 0%2)=some (.int m)/\0<m/\m<=999999999999:=by
  have z:ns.getD (8:Int).toNat 0%2=0\/ns.getD (8:Int).toNat 0%2=1:=by lia
  rcases z with z | z
  ·rw[z]
   exact⟨_,rfl,by decide,by decide⟩
  ·rw[z]
   exact⟨_,rfl,by ac_nf,by ac_nf⟩
 obtain⟨m,em2,mp,ml⟩:=mm;refine (vE rfl ⟨a,ns,8,rfl,s3.seq ha2,by decide,h63,vF rfl rfl ⟨(by show (0:Int)<2; decide),vI rfl rfl (SqL.of Af) em2 (vF rfl rfl ⟨mp,vF rfl rfl ?_⟩)⟩⟩);refine V2 1 999999999999 ⟨by have:=m0 (ns.getD (7:Int).toNat 0) mp; lia,by have:=m1 (ns.getD (7:Int).toNat 0) mp; lia⟩ fun bd bd1 bd2=>?_;refine Dt [some (.ref a),some (.ref r1),some (.int st),some (.int gp),some (.ref bk),some (.int bd),none,none,none] rfl ?_;have h3:=s3 _ _ h2;have bw3:=bw.same s3;have ha3:=s3.seq ha2;generalize upd H2 p2 (.lst [.int 400000,.int ((10:Int)^(12:Int).toNat-1)])=H3 at s3 h3 bw3 ha3;clear h2 bw ha2 s3 n2;have ws:=Q3 (bd:=bd) em d7 st1 st2 gp1 gp2;have cmR:∀ {x y:Int},0<=y->y<=100->CMul x y:=fun h1 h2=>.inr ⟨by lia,by lia⟩;have hq:=SqL.of (K:=K) h3;refine (vE rfl (vI rfl rfl hq rfl (vF rfl rfl (vE rfl (vI rfl rfl hq rfl (vF rfl rfl (vF rfl rfl ⟨cmR (by lia) (by lia),vE rfl (vI rfl rfl hq rfl (vF rfl rfl (vF rfl rfl ⟨cmR (by lia) (by lia),?_⟩)))⟩)))))));have eW:((a':Int)+1)*((b':Int)+1)*((c':Int)+1)=(((a'+1)*(b'+1)*(c'+1):Nat):Int):=by push_cast; rfl
 have n512:(a'+1)*(b'+1)*(c'+1)<=8*8*8:=Nat.mul_le_mul (Nat.mul_le_mul (by lia) (by lia)) (by lia);generalize eN:(a'+1)*(b'+1)*(c'+1)=n at wd eW n512;refine Dt [some (.ref a),some (.ref r1),some (.int st),some (.int gp),some (.ref bk),some (.int bd),some (.int (n:Int)),none,none] (by rw[<- eW]; rfl) ?_;refine (vE rfl (vI rfl rfl hq rfl ⟨_,rfl,by lia,by lia,fun p np=>?_⟩));refine Dx (lo:=0) (n:=d') (fun i ys H6=>ys=(Kt st gp bd i).map (fun (k:Nat)=>V.int (0+(k:Int)))/\H6 p=some (.lst ys)/\Same H3 H6) ⟨rfl,Af,Ai np _⟩
  (fun i ys H6 _ ⟨e,h1,_⟩=>⟨h1,by rw[e,zAb]; exact zAA (zAG _ _) (zBP zAY)⟩) (by lia) (fun i ys H6 hi ⟨e,h1,s2⟩=>?_) (fun ys H4 ⟨e,h4,s4⟩=>?_)
 ·have es:=B3 st gp bd i
  refine (vE rfl (vE rfl (vE rfl (vF rfl rfl ⟨cmR (by lia) (by lia),vF rfl rfl (vE rfl (vF rfl rfl (vE rfl ?_)))⟩))));by_cases c:st+gp*(0+(i:Int))<bd
  ·refine dT c (vE rfl ⟨h1,rfl,?_,Af,Bj np s2⟩)
   rw[es,if_pos c,zAz,e];rfl
  ·refine dF c ⟨rfl,?_,h1,s2⟩
   rw[es,if_neg c,zAJ,e]
 have lcu:(Kt st gp bd d').length<=d':=zAA (zAG _ _) (zBP zAY);refine⟨p,ys,rfl,.inl (SqL.of h4),?_⟩;have eC:ys.length=(Kt st gp bd d').length:=by rw[e,zAb]
 generalize (Kt st gp bd d').length=cu at ws lcu eC;refine Dt [some (.ref a),some (.ref r1),some (.int st),some (.int gp),some (.ref bk),some (.int bd),some (.int (n:Int)),some (.int (cu:Int)),none] (by rw[<- eC]; rfl) ?_;have bw4:=bw3.same s4;have ha4:=s4.seq ha3;clear e h4 bw3 ha3 s4 np h3 hq eC;refine (vE rfl (vE rfl (vF rfl rfl (vF rfl rfl ⟨⟨by decide,by decide,by decide⟩,vE rfl (vF rfl rfl ⟨(by show (0:Int)<7; decide),vF rfl rfl (vE rfl ⟨Bk (by show 1<=1000; decide),fun p3 n3=>vF rfl rfl ⟨⟨by decide,by decide,by decide⟩,Bk (by show 8<=1000; decide),fun p4 n4=>?_⟩⟩)⟩)⟩))));have s5:=(Ai n3 (.lst [V.int bd])).trans (Ai n4 (.lst (P1 bd p3)));have hp3:=Ai n4 (.lst (P1 bd p3)) _ _ (Af (H:=H4) (a:=p3) (o:=.lst [V.int bd]));obtain⟨x,ty,ex,xb,tx⟩:=CQ (K:=K) (i:=ns.getD (9:Int).toNat 0%8) hp3 bd1 (m0 _ (by decide)) (m1 _ (by decide));refine (vE rfl ⟨a,ns,9,rfl,s5.seq ha4,by decide,h63,vF rfl rfl ⟨(by show (0:Int)<8; decide),vI rfl rfl (SqL.of Af) ex ?_⟩⟩);refine IR [some (.ref a),some (.ref r1),some (.int st),some (.int gp),some (.ref bk),some (.int bd),some (.int (n:Int)),some (.int (cu:Int)),some x] (upd (upd H4 p3 (.lst [V.int bd])) p4 (.lst (P1 bd p3))) rfl rfl ?_;have bw5:=bw4.same s5;generalize upd (upd H4 p3 (.lst [V.int bd])) p4 (.lst (P1 bd p3))=H5 at s5 tx bw5;clear ex hp3 s5 bw4 ha4 n3 n4 ha;have l20:cs.length<=20:=by lia
 have by':=CP bd1 bd2;have gs:=AR n;have eC:(n:Int)*((cu:Int)+1)=((n*(cu+1):Nat):Int):=by push_cast; rfl
 refine (vE rfl (vE rfl ⟨0,bk,cs,.int bd,_,n,rfl,.int bd,bw5,l6,l20,wd,.inl ⟨rfl,fun H6 s6=>?_⟩⟩));refine (vE rfl (vF rfl rfl (.inr (vE rfl ⟨rfl,vE rfl (FM gs ?_)⟩))));have tx6:=TyOf.same tx s6;refine (vE rfl (vE rfl ⟨1,bk,cs,x,ty,n,rfl,tx6,bw5.same s6,l6,l20,wd,.inr (.inl ⟨rfl,xb,fun H7 s7=>⟨rfl,vE rfl (FM rfl ?_)⟩⟩)⟩));have bw7:=bw5.same (s6.trans s7);have tx7:=TyOf.same tx6 s7;clear bw5 tx tx6 s6 s7;refine (vE rfl (vE rfl (vF rfl rfl (vF rfl rfl ⟨cmR (by lia) (by lia),vF rfl rfl (vE rfl ?_)⟩))));by_cases g:120<n*(cu+1)
 case' pos=>
  refine dT (by show (120:Int)<(n:Int)*((cu:Int)+1); rw[eC]; lia) ?_;refine (vE rfl (vE rfl ⟨1,bk,cs,.int bd,_,n,rfl,.int bd,bw7,l6,l20,wd,.inr (.inr ⟨rfl,bd,cu,rfl,by',ws,g,fun H8 s8=>⟨rfl,vE rfl (FM rfl ?_)⟩⟩)⟩))
 case' neg=>
  refine dF (by show ¬ (120:Int)<(n:Int)*((cu:Int)+1); rw[eC]; lia) ?_;refine (vE rfl (vE rfl ⟨bk,cs,.int bd,_,rfl,.int bd,bw7,l6,l20,.inr ⟨bd,n,cu,rfl,by',wd,ws,.inr ⟨zCp g,fun pr ys H8 s8 hpr lpr=>?_⟩⟩⟩));refine⟨pr,ys,rfl,.inl (SqL.of hpr),vE rfl (vE rfl (vF rfl rfl (vF rfl rfl ⟨cmR (by lia) (by lia),rfl,vE rfl (FM ?_ ?_)⟩)))⟩
  ·show V.int (ys.length:Int)=V.int ((n:Int)*((cu:Int)+1))
   rw[lpr,eC]
 all_goals
  have bw8:=bw7.same s8;have tx8:=TyOf.same tx7 s8;clear bw7 tx7;refine (vE rfl (vF rfl rfl (vE rfl ?_)));by_cases g2:n<=120
  case' pos=>
   refine dT (by show (n:Int)<=120; lia) ?_;refine (vE rfl ⟨bk,cs,n,rfl,bw8,l6,wd,.inr ⟨g2,fun cr H9 s9 ⟨ts,lt,hcr,_⟩=>⟨cr,_,rfl,.inl (SqL.of hcr),vE rfl ⟨rfl,vE rfl (FM (by rw[zAb,lt]) ?_)⟩⟩⟩⟩)
  case' neg=>
   refine dF (by show ¬ (n:Int)<=120; lia) (Dk ?_);have s9:=Same.refl H8
  all_goals
   have bw9:=bw8.same s9;have tx9:=TyOf.same tx8 s9;clear bw8 tx8;refine (vE rfl (vE rfl ⟨bk,cs,bd,rfl,bw9,l6,bd1,fun sr H10 E' nsr s10 pE mE ⟨us,lu,hsr,_⟩=>⟨sr,_,rfl,.inl (SqL.of hsr),vE rfl (vF rfl rfl ⟨rfl,vE rfl (FM ?_ ?_)⟩)⟩⟩))
   ·show V.int ((us.map V.ref).length:Int)=V.int ((cu:Int)+1)
    rw[zAb,lu,ws E' pE mE];rfl
   have bw10:=bw9.same s10;have tx10:=TyOf.same tx9 s10;clear bw9 tx9;refine (vE rfl (vE rfl ⟨0,bk,cs,.int bd,_,n,rfl,.int bd,bw10,l6,l20,wd,.inl ⟨rfl,fun H11 s11=>?_⟩⟩));refine (vE rfl (vF rfl rfl (.inr (vE rfl ⟨rfl,vE rfl (dT gs ?_)⟩))));have tx11:=TyOf.same tx10 s11;exact (vE rfl (vE rfl ⟨1,bk,cs,x,ty,n,rfl,tx11,bw10.same s11,l6,l20,wd,.inr (.inl ⟨rfl,xb,fun H12 s12=>⟨rfl,q _⟩⟩)⟩))
end
theorem all_mk {l:PySem.W.OpenLaw} {w:World} {K:zAa} {h:Heap} {mg:Str->Option Value} {fa:Addr} (X:K.In h) (G:h.Ns zCy mg) (hfa:mg "law" = some (.ref fa))
  {f0:Addr} (d0:DfIn K "is_whole" Kd f0)
  {f1:Addr} (d1:DfIn K "has_letters_alone" Do f1)
  {f2:Addr} (d2:DfIn K "is_name" Mq f2)
  {f3:Addr} (d3:DfIn K "is_amount" Iw f3)
  {f4:Addr} (d4:DfIn K "marked" Oy f4)
  {f5:Addr} (d5:DfIn K "marks_of" Kp f5)
  {f6:Addr} (d6:DfIn K "name_at" Mu f6)
  {f7:Addr} (d7:DfIn K "another" Md f7)
  {f8:Addr} (d8:DfIn K "day_stretches" Ey f8)
  {f9:Addr} (d9:DfIn K "cells_of" Kg f9)
  {f10:Addr} (d10:DfIn K "stretches_of" Fs f10)
  {f11:Addr} (d11:DfIn K "loss_in" Mr f11)
  {f12:Addr} (d12:DfIn K "cut_within" Hk f12)
  {f13:Addr} (d13:DfIn K "lowest_of" Iv f13)
  {f14:Addr} (d14:DfIn K "left_of_run" Go f14)
  {f15:Addr} (d15:DfIn K "cut_out" Ma f15)
  {f16:Addr} (d16:DfIn K "numbers_of" Hs f16)
  {f17:Addr} (d17:DfIn K "asked_of" Kk f17)
  {f18:Addr} (d18:DfIn K "paid_runs" Ip f18)
  {f19:Addr} (d19:DfIn K "borne_strips" Fp f19)
  {f20:Addr} (d20:DfIn K "strips_of" Im f20)
  {f21:Addr} (d21:DfIn K "is_bound" Ka f21)
  {f22:Addr} (d22:DfIn K "claim_of" Kr f22)
  {f23:Addr} (d23:DfIn K "claims_of" Ir f23)
  {f24:Addr} (d24:DfIn K "row_of" Pj f24)
  {f25:Addr} (d25:DfIn K "paper_of" Ju f25)
  {f26:Addr} (d26:DfIn K "marks_with" Hi f26)
  {f27:Addr} (d27:DfIn K "are_weights" Gp f27)
  {f28:Addr} (d28:DfIn K "may_have" Kh f28)
  {f29:Addr} (d29:DfIn K "due_by" Py f29)
  {f30:Addr} (d30:DfIn K "place_of_turn" Ev f30)
  {f31:Addr} (d31:DfIn K "turns" Tt f31)
  {f32:Addr} (d32:DfIn K "check_houses" Fx f32)
  {f33:Addr} (d33:DfIn K "first_without" Fi f33)
  {f34:Addr} (d34:DfIn K "bounds_of" Iq f34)
  {f35:Addr} (d35:DfIn K "_law_cell" Ix f35)
  {f36:Addr} (d36:DfIn K "_law_some" Ib f36)
  {f37:Addr} (d37:DfIn K "_law_book" Ih f37)
  {f38:Addr} (d38:DfIn K "_law_refused" Fo f38)
  {f39:Addr} (d39:DfIn K "law" Qn f39)
  {Ab:Addr} (q_Condition:ClIn K "Condition" Ab)
  {Ad:Addr} (q_CauseIs:ClIn K "CauseIs" Ad)
  (na_CauseIs_name:zAe K (.ref Ad) "name" = some none)
  {Ae:Addr} (q_ThingIs:ClIn K "ThingIs" Ae)
  (na_ThingIs_name:zAe K (.ref Ae) "name" = some none)
  {Ag:Addr} (q_DaysIn:ClIn K "DaysIn" Ag)
  (na_DaysIn_first:zAe K (.ref Ag) "first" = some none)
  (na_DaysIn_last:zAe K (.ref Ag) "last" = some none)
  {Al:Addr} (q_Over:ClIn K "Over" Al)
  (na_Over_cents:zAe K (.ref Al) "cents" = some none)
  {Ak:Addr} (q_Some:ClIn K "Some" Ak)
  (na_Some_several:zAe K (.ref Ak) "several" = some none)
  {Am:Addr} (q_Deal:ClIn K "Deal" Am)
  (na_Deal_wheel:zAe K (.ref Am) "wheel" = some none)
  (na_Deal_weights:zAe K (.ref Am) "weights" = some none)
  {Ac:Addr} (q_Cover:ClIn K "Cover" Ac)
  (na_Cover_name:zAe K (.ref Ac) "name" = some none)
  (na_Cover_condition:zAe K (.ref Ac) "condition" = some none)
  (na_Cover_clauses:zAe K (.ref Ac) "clauses" = some none)
  (na_Cover_houses:zAe K (.ref Ac) "houses" = some none)
  (na_Cover_deal:zAe K (.ref Ac) "deal" = some none)
  (na_Cover_waits:zAe K (.ref Ac) "waits" = some none)
  {As:Addr} (q_Book:ClIn K "Book" As)
  (na_Book_covers:zAe K (.ref As) "covers" = some none)
  (na_Book_asking:zAe K (.ref As) "asking" = some none)
  {At:Addr} (q_Counts:ClIn K "Counts" At)
  (na_Counts_kept:zAe K (.ref At) "kept" = some none)
  (nd_C:([Ab,Ad,Ae,Ag,Al,Ak,Am,Ac,As,At]:List Addr).Nodup)
  {fCondition_holds:Addr} (a_Condition_holds:zAe K (.ref Ab) "holds" = some (some (.ref fCondition_holds))) (iCondition_holds:MtIn K "holds" "Condition.holds" Eg fCondition_holds)
  {fCondition_marks:Addr} (a_Condition_marks:zAe K (.ref Ab) "marks" = some (some (.ref fCondition_marks))) (iCondition_marks:MtIn K "marks" "Condition.marks" Ej fCondition_marks)
  {fCauseIs___init__:Addr} (a_CauseIs___init__:zAe K (.ref Ad) "__init__" = some (some (.ref fCauseIs___init__))) (iCauseIs___init__:MtIn K "__init__" "CauseIs.__init__" Du fCauseIs___init__)
  {fCauseIs_holds:Addr} (a_CauseIs_holds:zAe K (.ref Ad) "holds" = some (some (.ref fCauseIs_holds))) (iCauseIs_holds:MtIn K "holds" "CauseIs.holds" Fa fCauseIs_holds)
  {fCauseIs_marks:Addr} (a_CauseIs_marks:zAe K (.ref Ad) "marks" = some (some (.ref fCauseIs_marks))) (iCauseIs_marks:MtIn K "marks" "CauseIs.marks" Fc fCauseIs_marks)
  {fThingIs___init__:Addr} (a_ThingIs___init__:zAe K (.ref Ae) "__init__" = some (some (.ref fThingIs___init__))) (iThingIs___init__:MtIn K "__init__" "ThingIs.__init__" Dv fThingIs___init__)
  {fThingIs_holds:Addr} (a_ThingIs_holds:zAe K (.ref Ae) "holds" = some (some (.ref fThingIs_holds))) (iThingIs_holds:MtIn K "holds" "ThingIs.holds" Fg fThingIs_holds)
  {fThingIs_marks:Addr} (a_ThingIs_marks:zAe K (.ref Ae) "marks" = some (some (.ref fThingIs_marks))) (iThingIs_marks:MtIn K "marks" "ThingIs.marks" Fe fThingIs_marks)
  {fDaysIn___init__:Addr} (a_DaysIn___init__:zAe K (.ref Ag) "__init__" = some (some (.ref fDaysIn___init__))) (iDaysIn___init__:MtIn K "__init__" "DaysIn.__init__" Ee fDaysIn___init__)
  {fDaysIn_holds:Addr} (a_DaysIn_holds:zAe K (.ref Ag) "holds" = some (some (.ref fDaysIn_holds))) (iDaysIn_holds:MtIn K "holds" "DaysIn.holds" Ga fDaysIn_holds)
  {fDaysIn_marks:Addr} (a_DaysIn_marks:zAe K (.ref Ag) "marks" = some (some (.ref fDaysIn_marks))) (iDaysIn_marks:MtIn K "marks" "DaysIn.marks" Fw fDaysIn_marks)
  {fOver___init__:Addr} (a_Over___init__:zAe K (.ref Al) "__init__" = some (some (.ref fOver___init__))) (iOver___init__:MtIn K "__init__" "Over.__init__" Ez fOver___init__)
  {fOver_holds:Addr} (a_Over_holds:zAe K (.ref Al) "holds" = some (some (.ref fOver_holds))) (iOver_holds:MtIn K "holds" "Over.holds" Hf fOver_holds)
  {fOver_marks:Addr} (a_Over_marks:zAe K (.ref Al) "marks" = some (some (.ref fOver_marks))) (iOver_marks:MtIn K "marks" "Over.marks" Hn fOver_marks)
  {fSome___init__:Addr} (a_Some___init__:zAe K (.ref Ak) "__init__" = some (some (.ref fSome___init__))) (iSome___init__:MtIn K "__init__" "Some.__init__" Fh fSome___init__)
  {fSome_holds:Addr} (a_Some_holds:zAe K (.ref Ak) "holds" = some (some (.ref fSome_holds))) (iSome_holds:MtIn K "holds" "Some.holds" Hm fSome_holds)
  {fSome_marks:Addr} (a_Some_marks:zAe K (.ref Ak) "marks" = some (some (.ref fSome_marks))) (iSome_marks:MtIn K "marks" "Some.marks" Ht fSome_marks)
  {fDeal___init__:Addr} (a_Deal___init__:zAe K (.ref Am) "__init__" = some (some (.ref fDeal___init__))) (iDeal___init__:MtIn K "__init__" "Deal.__init__" Ew fDeal___init__)
  {fCover___init__ dvCover___init__:Addr} {odCover___init__ anCover___init__:Option Addr} {slCover___init__:Array (Option Value)} {ocCover___init__ kVCover___init__ dcCover___init__ pmCover___init__ cdCover___init__ ctCover___init__:Value}
  (a_Cover___init__:zAe K (.ref Ac) "__init__" = some (some (.ref fCover___init__)))
  (iCover___init__:zCb K (.ref fCover___init__)=true) (lCover___init__:K.lookup fCover___init__=some ⟨ocCover___init__,odCover___init__,.func (zAV "__init__" "Cover.__init__" (Cy Bs) (Ce Bs) (Ar Bs) (.ref dvCover___init__) kVCover___init__ dcCover___init__ pmCover___init__ anCover___init__ cdCover___init__ ctCover___init__),slCover___init__⟩) (cCover___init__:zBn K cdCover___init__ "Cover.__init__" = true) (kCover___init__:zAT K (.ref fCover___init__)=true)
  {ndCover___init__:Nat} (dlCover___init__:K.lookup dvCover___init__=some ⟨.type "tuple",none,.seq #[.none,.none,.bool false] ndCover___init__,#[]⟩)
  {fCover_asks:Addr} (a_Cover_asks:zAe K (.ref Ac) "asks" = some (some (.ref fCover_asks))) (iCover_asks:MtIn K "asks" "Cover.asks" Ho fCover_asks)
  {fCover_spans:Addr} (a_Cover_spans:zAe K (.ref Ac) "spans" = some (some (.ref fCover_spans))) (iCover_spans:MtIn K "spans" "Cover.spans" Gi fCover_spans)
  {fCover_window:Addr} (a_Cover_window:zAe K (.ref Ac) "window" = some (some (.ref fCover_window))) (iCover_window:MtIn K "window" "Cover.window" Ft fCover_window)
  {fCover_parts:Addr} (a_Cover_parts:zAe K (.ref Ac) "parts" = some (some (.ref fCover_parts))) (iCover_parts:MtIn K "parts" "Cover.parts" Gj fCover_parts)
  {fCover_rest:Addr} (a_Cover_rest:zAe K (.ref Ac) "rest" = some (some (.ref fCover_rest))) (iCover_rest:MtIn K "rest" "Cover.rest" Hh fCover_rest)
  {fBook___init__:Addr} (a_Book___init__:zAe K (.ref As) "__init__" = some (some (.ref fBook___init__))) (iBook___init__:MtIn K "__init__" "Book.__init__" Fd fBook___init__)
  {fCounts___init__:Addr} (a_Counts___init__:zAe K (.ref At) "__init__" = some (some (.ref fCounts___init__))) (iCounts___init__:MtIn K "__init__" "Counts.__init__" Ec fCounts___init__)
  (ni_Condition:zAe K (.ref Ab) "__init__" = some (some (.builtin "object.__init__")))
  {tk_ANY_OTHER:Tok} (z_ANY_OTHER:zAx K zCy "ANY_OTHER" = some (some (.str "" tk_ANY_OTHER)))
  {tk_CAUSE:Tok} (z_CAUSE:zAx K zCy "CAUSE" = some (some (.int 4 tk_CAUSE)))
  {tk_CENTS:Tok} (z_CENTS:zAx K zCy "CENTS" = some (some (.int 5 tk_CENTS)))
  {tk_COVERED_ONE:Tok} (z_COVERED_ONE:zAx K zCy "COVERED_ONE" = some (some (.str "self" tk_COVERED_ONE)))
  {tk_DAY:Tok} (z_DAY:zAx K zCy "DAY" = some (some (.int 1 tk_DAY)))
  {tk_LAST_DAY:Tok} (z_LAST_DAY:zAx K zCy "LAST_DAY" = some (some (.int 1000000 tk_LAST_DAY)))
  {tk_LETTERS:Tok} (z_LETTERS:zAx K zCy "LETTERS" = some (some (.str "abcdefghijklmnopqrstuvwxyz" tk_LETTERS)))
  {tk_LONGEST_NAME:Tok} (z_LONGEST_NAME:zAx K zCy "LONGEST_NAME" = some (some (.int 8 tk_LONGEST_NAME)))
  {tk_MOST_CELLS:Tok} (z_MOST_CELLS:zAx K zCy "MOST_CELLS" = some (some (.int 120 tk_MOST_CELLS)))
  {tk_MOST_CENTS:Tok} (z_MOST_CENTS:zAx K zCy "MOST_CENTS" = some (some (.int 999999999999 tk_MOST_CENTS)))
  {tk_MOST_CLAUSES:Tok} (z_MOST_CLAUSES:zAx K zCy "MOST_CLAUSES" = some (some (.int 8 tk_MOST_CLAUSES)))
  {tk_MOST_COVERS:Tok} (z_MOST_COVERS:zAx K zCy "MOST_COVERS" = some (some (.int 8 tk_MOST_COVERS)))
  {tk_MOST_PLACES:Tok} (z_MOST_PLACES:zAx K zCy "MOST_PLACES" = some (some (.int 8 tk_MOST_PLACES)))
  {tk_MOST_ROWS:Tok} (z_MOST_ROWS:zAx K zCy "MOST_ROWS" = some (some (.int 120 tk_MOST_ROWS)))
  {tk_MOST_TURNS:Tok} (z_MOST_TURNS:zAx K zCy "MOST_TURNS" = some (some (.int 100 tk_MOST_TURNS)))
  {tk_THING:Tok} (z_THING:zAx K zCy "THING" = some (some (.int 3 tk_THING)))
  (z_ValueError:zAx K zCy "ValueError" = some none)
  (z_bool:zAx K zCy "bool" = some none)
  (z_enumerate:zAx K zCy "enumerate" = some none)
  (z_int:zAx K zCy "int" = some none)
  (z_isinstance:zAx K zCy "isinstance" = some none)
  (z_len:zAx K zCy "len" = some none)
  (z_list:zAx K zCy "list" = some none)
  (z_max:zAx K zCy "max" = some none)
  (z_min:zAx K zCy "min" = some none)
  (z_range:zAx K zCy "range" = some none)
  (z_set:zAx K zCy "set" = some none)
  (z_sorted:zAx K zCy "sorted" = some none)
  (z_str:zAx K zCy "str" = some none)
  (z_sum:zAx K zCy "sum" = some none)
  (z_zip:zAx K zCy "zip" = some none)
  {Bq:Addr} (q_CoverError:zAx K zCy "CoverError" = some (some (.ref Bq)))
  {Cq:Addr} (q_NoShares:zAx K zCy "NoShares" = some (some (.ref Cq)))
  {Ay:Addr} (q_NoEntry:zAx K zCy "NoEntry" = some (some (.ref Ay)))
  {De:Addr} (q_NoCover:zAx K zCy "NoCover" = some (some (.ref De)))
  {Cm:Addr} (q_NoBook:zAx K zCy "NoBook" = some (some (.ref Cm)))
  {Cb:Addr} (q_NotTold:zAx K zCy "NotTold" = some (some (.ref Cb)))
  {Au:Addr} (q_TooWide:zAx K zCy "TooWide" = some (some (.ref Au)))
  (r_TooWide:zCn K Au [.type "ValueError",.type "Exception",.type "BaseException",.type "object"] "ValueError.__new__" = true)
  (ga_TooWide:zAe K (.ref Au) "__getattribute__" = some (some (.builtin "BaseException.__getattribute__")))
  (gt_TooWide:zAe K (.ref Au) "__getattr__" = some none)
  (cl_TooWide:zAe K (.ref Au) "__class__" = some (some (.builtin "object.__class__")))
  (ob_TooWide:PySem.W.mroIn K Au (.type "object")=some true)
  (sb_TooWide:PySem.W.subIn K (.ref Au) (.type "BaseException")=some true)
  (ic_TooWide:PySem.W.isClsIn K Au=true)
  (hd_TooWide:zBy K Au=true)
  (gs:PySem.W.specialIn K (.builtin "object.__class__") "__get__" = some (some (.builtin "getset_descriptor.__get__"))) (tk:PySem.W.takesIn K (.builtin "object.__class__")=some true)
  (v_TooWide:zAE K (.ref Au) (.type "ValueError")=some true)
  (k_TooWide_NoBook:zAE K (.ref Au) (.ref Cm)=some false)
  (k_TooWide_NotTold:zAE K (.ref Au) (.ref Cb)=some false)
  (k_TooWide_TooWide:zAE K (.ref Au) (.ref Au)=some true)
  (k_TooWide_NoEntry:zAE K (.ref Au) (.ref Ay)=some false)
  (h_TooWide_CoverError:zCg K (.ref Au) (.ref Bq)=some true)
  (r_NoEntry:zCn K Ay [.type "ValueError",.type "Exception",.type "BaseException",.type "object"] "ValueError.__new__" = true)
  (ga_NoEntry:zAe K (.ref Ay) "__getattribute__" = some (some (.builtin "BaseException.__getattribute__")))
  (gt_NoEntry:zAe K (.ref Ay) "__getattr__" = some none)
  (cl_NoEntry:zAe K (.ref Ay) "__class__" = some (some (.builtin "object.__class__")))
  (ob_NoEntry:PySem.W.mroIn K Ay (.type "object")=some true)
  (sb_NoEntry:PySem.W.subIn K (.ref Ay) (.type "BaseException")=some true)
  (ic_NoEntry:PySem.W.isClsIn K Ay=true)
  (hd_NoEntry:zBy K Ay=true)
  (v_NoEntry:zAE K (.ref Ay) (.type "ValueError")=some true)
  (k_NoEntry_NoBook:zAE K (.ref Ay) (.ref Cm)=some false)
  (k_NoEntry_NotTold:zAE K (.ref Ay) (.ref Cb)=some false)
  (k_NoEntry_TooWide:zAE K (.ref Ay) (.ref Au)=some false)
  (k_NoEntry_NoEntry:zAE K (.ref Ay) (.ref Ay)=some true)
  (h_NoEntry_CoverError:zCg K (.ref Ay) (.ref Bq)=some true) :
  ∃ fd:zCx,(∀ (s:Shared) (v:Value),BindsTo s fd ⟨[v],[]⟩ [("_law_script",v)])/\∀ base:Heap,K.In base->base.Ns zCy mg->FnOk l.prog w K mg base Da 10 fa fd ["_law_script"] (D4 K):=by
 have e:=hfa.symm.trans (zAv X G d39.ns);cases e;have D_is_whole:=d0.df X G (ps:=["thing"]) fun _ _ _ _ _ _=>Qx fun _=>rfl;have D_has_letters_alone:=d1.df X G (ps:=["text"]) fun _ _ _ _ _ _=>Qx fun _=>rfl;have D_is_name:=d2.df X G (ps:=["thing"]) fun _ _ _ _ _ _=>Qx fun _=>rfl;have D_is_amount:=d3.df X G (ps:=["thing"]) fun _ _ _ _ _ _=>Qx fun _=>rfl;have D_marked:=d4.df X G (ps:=["marks", "sort"]) fun _ _ _ _ _ _=>Nj fun _ _=>rfl;have D_marks_of:=d5.df X G (ps:=["book"]) fun _ _ _ _ _ _=>Qx fun _=>rfl;have D_name_at:=d6.df X G (ps:=["place"]) fun _ _ _ _ _ _=>Qx fun _=>rfl;have D_another:=d7.df X G (ps:=["names"]) fun _ _ _ _ _ _=>Qx fun _=>rfl;have D_day_stretches:=d8.df X G (ps:=["days"]) fun _ _ _ _ _ _=>Qx fun _=>rfl;have D_cells_of:=d9.df X G (ps:=["book"]) fun _ _ _ _ _ _=>Qx fun _=>rfl;have D_stretches_of:=d10.df X G (ps:=["book", "bound"]) fun _ _ _ _ _ _=>Nj fun _ _=>rfl;have D_loss_in:=d11.df X G (ps:=["book", "cell", "cents"]) fun _ _ _ _ _ _=>X0 fun _ _ _=>rfl;have D_cut_within:=d12.df X G (ps:=["runs", "lo", "hi"]) fun _ _ _ _ _ _=>X0 fun _ _ _=>rfl;have D_lowest_of:=d13.df X G (ps:=["runs", "n"]) fun _ _ _ _ _ _=>Nj fun _ _=>rfl;have D_left_of_run:=d14.df X G (ps:=["run", "others"]) fun _ _ _ _ _ _=>Nj fun _ _=>rfl;have D_cut_out:=d15.df X G (ps:=["runs", "others"]) fun _ _ _ _ _ _=>Nj fun _ _=>rfl;have D_numbers_of:=d16.df X G (ps:=["cover", "counts", "loss"]) fun _ _ _ _ _ _=>X0 fun _ _ _=>rfl;have D_asked_of:=d17.df X G (ps:=["book", "loss"]) fun _ _ _ _ _ _=>Nj fun _ _=>rfl
 have D_paid_runs:=d18.df X G (ps:=["cover", "numbers", "cents", "unpaid"]) fun _ _ _ _ _ _=>FU fun _ _ _ _=>rfl;have D_borne_strips:=d19.df X G (ps:=["cover", "numbers", "cents", "unpaid"]) fun _ _ _ _ _ _=>FU fun _ _ _ _=>rfl;have D_strips_of:=d20.df X G (ps:=["book", "counts", "loss"]) fun _ _ _ _ _ _=>X0 fun _ _ _=>rfl;have D_is_bound:=d21.df X G (ps:=["thing"]) fun _ _ _ _ _ _=>Qx fun _=>rfl;have D_claim_of:=d22.df X G (ps:=["cover", "cents"]) fun _ _ _ _ _ _=>Nj fun _ _=>rfl;have D_claims_of:=d23.df X G (ps:=["book", "loss"]) fun _ _ _ _ _ _=>Nj fun _ _=>rfl;have D_row_of:=d24.df X G (ps:=["book", "cell", "lo", "hi"]) fun _ _ _ _ _ _=>FU fun _ _ _ _=>rfl;have D_paper_of:=d25.df X G (ps:=["book", "bound"]) fun _ _ _ _ _ _=>Nj fun _ _=>rfl;have D_marks_with:=d26.df X G (ps:=["several"]) fun _ _ _ _ _ _=>Qx fun _=>rfl;have D_are_weights:=d27.df X G (ps:=["thing"]) fun _ _ _ _ _ _=>Qx fun _=>rfl;have D_may_have:=d28.df X G (ps:=["weight", "dealt", "total", "turn"]) fun _ _ _ _ _ _=>FU fun _ _ _ _=>rfl;have D_due_by:=d29.df X G (ps:=["weight", "dealt", "total"]) fun _ _ _ _ _ _=>X0 fun _ _ _=>rfl;have D_place_of_turn:=d30.df X G (ps:=["weights", "dealt", "turn"]) fun _ _ _ _ _ _=>X0 fun _ _ _=>rfl;have D_turns:=d31.df X G (ps:=["weights"]) fun _ _ _ _ _ _=>Qx fun _=>rfl;have D_check_houses:=d32.df X G (ps:=["houses"]) fun _ _ _ _ _ _=>Qx fun _=>rfl;have D_first_without:=d33.df X G (ps:=["spans", "cent"]) fun _ _ _ _ _ _=>Nj fun _ _=>rfl;have D_bounds_of:=d34.df X G (ps:=["spans", "cents"]) fun _ _ _ _ _ _=>Nj fun _ _=>rfl
 have D__law_cell:=d35.df X G (ps:=["_law_script", "_law_k"]) fun _ _ _ _ _ _=>Nj fun _ _=>rfl;have D__law_some:=d36.df X G (ps:=["_law_parts"]) fun _ _ _ _ _ _=>Qx fun _=>rfl;have D__law_book:=d37.df X G (ps:=["_law_sizes", "_law_start", "_law_gap", "_law_waits"]) fun _ _ _ _ _ _=>FU fun _ _ _ _=>rfl;have D__law_refused:=d38.df X G (ps:=["_law_way", "_law_book_here", "_law_bound"]) fun _ _ _ _ _ _=>X0 fun _ _ _=>rfl;obtain⟨od39,an39,sl39,oc39,kV39,dc39,pm39,cd39,ct39,l39,c39⟩:=d39.ex;have F39:=Zy (x := "law") (qual := "law") (st:=Qn) l39 c39 d39.kp;obtain⟨_,F_Condition_holds,B_Condition_holds⟩:=iCondition_holds.get (ps:=["self", "loss"]) fun _ _ _ _ _ _=>Nj fun _ _=>rfl;obtain⟨_,F_Condition_marks,B_Condition_marks⟩:=iCondition_marks.get (ps:=["self"]) fun _ _ _ _ _ _=>Qx fun _=>rfl;obtain⟨_,F_CauseIs___init__,B_CauseIs___init__⟩:=iCauseIs___init__.get (ps:=["self", "name"]) fun _ _ _ _ _ _=>Nj fun _ _=>rfl;obtain⟨_,F_CauseIs_holds,B_CauseIs_holds⟩:=iCauseIs_holds.get (ps:=["self", "loss"]) fun _ _ _ _ _ _=>Nj fun _ _=>rfl;obtain⟨_,F_CauseIs_marks,B_CauseIs_marks⟩:=iCauseIs_marks.get (ps:=["self"]) fun _ _ _ _ _ _=>Qx fun _=>rfl;obtain⟨_,F_ThingIs___init__,B_ThingIs___init__⟩:=iThingIs___init__.get (ps:=["self", "name"]) fun _ _ _ _ _ _=>Nj fun _ _=>rfl;obtain⟨_,F_ThingIs_holds,B_ThingIs_holds⟩:=iThingIs_holds.get (ps:=["self", "loss"]) fun _ _ _ _ _ _=>Nj fun _ _=>rfl;obtain⟨_,F_ThingIs_marks,B_ThingIs_marks⟩:=iThingIs_marks.get (ps:=["self"]) fun _ _ _ _ _ _=>Qx fun _=>rfl
 obtain⟨_,F_DaysIn___init__,B_DaysIn___init__⟩:=iDaysIn___init__.get (ps:=["self", "first", "last"]) fun _ _ _ _ _ _=>X0 fun _ _ _=>rfl;obtain⟨_,F_DaysIn_holds,B_DaysIn_holds⟩:=iDaysIn_holds.get (ps:=["self", "loss"]) fun _ _ _ _ _ _=>Nj fun _ _=>rfl;obtain⟨_,F_DaysIn_marks,B_DaysIn_marks⟩:=iDaysIn_marks.get (ps:=["self"]) fun _ _ _ _ _ _=>Qx fun _=>rfl;obtain⟨_,F_Over___init__,B_Over___init__⟩:=iOver___init__.get (ps:=["self", "cents"]) fun _ _ _ _ _ _=>Nj fun _ _=>rfl;obtain⟨_,F_Over_holds,B_Over_holds⟩:=iOver_holds.get (ps:=["self", "loss"]) fun _ _ _ _ _ _=>Nj fun _ _=>rfl;obtain⟨_,F_Over_marks,B_Over_marks⟩:=iOver_marks.get (ps:=["self"]) fun _ _ _ _ _ _=>Qx fun _=>rfl;obtain⟨_,F_Some___init__,B_Some___init__⟩:=iSome___init__.get (ps:=["self", "several"]) fun _ _ _ _ _ _=>Nj fun _ _=>rfl;obtain⟨_,F_Some_holds,B_Some_holds⟩:=iSome_holds.get (ps:=["self", "loss"]) fun _ _ _ _ _ _=>Nj fun _ _=>rfl;obtain⟨_,F_Some_marks,B_Some_marks⟩:=iSome_marks.get (ps:=["self"]) fun _ _ _ _ _ _=>Qx fun _=>rfl;obtain⟨_,F_Deal___init__,B_Deal___init__⟩:=iDeal___init__.get (ps:=["self", "weights"]) fun _ _ _ _ _ _=>Nj fun _ _=>rfl;have F_Cover___init__:=AU (x := "__init__") (qual := "Cover.__init__") (st:=Bs) lCover___init__ cCover___init__ kCover___init__;have B_Cover___init__:Binds K _ ["self", "name", "condition", "clauses", "houses", "waits"] []:=fun s us X hl=>by
  rw[zAJ] at hl ⊢
  match us,hl with | [_,_,_,_,_,_],_=>exact BindsTo.of_defaults (fd:=zAV "__init__" "Cover.__init__" (Cy Bs) (Ce Bs) (Ar Bs) (.ref dvCover___init__) kVCover___init__ dcCover___init__ pmCover___init__ anCover___init__ cdCover___init__ ctCover___init__) rfl (X _ _ dlCover___init__) rfl rfl rfl
 obtain⟨_,F_Cover_asks,B_Cover_asks⟩:=iCover_asks.get (ps:=["self", "loss"]) fun _ _ _ _ _ _=>Nj fun _ _=>rfl;obtain⟨_,F_Cover_spans,B_Cover_spans⟩:=iCover_spans.get (ps:=["self", "counts", "cents"]) fun _ _ _ _ _ _=>X0 fun _ _ _=>rfl;obtain⟨_,F_Cover_window,B_Cover_window⟩:=iCover_window.get (ps:=["self", "counts", "cents"]) fun _ _ _ _ _ _=>X0 fun _ _ _=>rfl;obtain⟨_,F_Cover_parts,B_Cover_parts⟩:=iCover_parts.get (ps:=["self", "counts", "cents"]) fun _ _ _ _ _ _=>X0 fun _ _ _=>rfl;obtain⟨_,F_Cover_rest,B_Cover_rest⟩:=iCover_rest.get (ps:=["self", "counts"]) fun _ _ _ _ _ _=>Nj fun _ _=>rfl;obtain⟨_,F_Book___init__,B_Book___init__⟩:=iBook___init__.get (ps:=["self", "covers"]) fun _ _ _ _ _ _=>Nj fun _ _=>rfl;obtain⟨_,F_Counts___init__,B_Counts___init__⟩:=iCounts___init__.get (ps:=["self"]) fun _ _ _ _ _ _=>Qx fun _=>rfl;have H_Condition_holds:Gn K Ab "holds" fCondition_holds:=⟨a_Condition_holds,iCondition_holds.fn,iCondition_holds.kp⟩;have H_Condition_marks:Gn K Ab "marks" fCondition_marks:=⟨a_Condition_marks,iCondition_marks.fn,iCondition_marks.kp⟩;have H_CauseIs_make:Mk K Ad fCauseIs___init__:=⟨q_CauseIs.mi,a_CauseIs___init__,iCauseIs___init__.fn,q_CauseIs.kp⟩;have H_CauseIs_holds:Gn K Ad "holds" fCauseIs_holds:=⟨a_CauseIs_holds,iCauseIs_holds.fn,iCauseIs_holds.kp⟩;have H_CauseIs_marks:Gn K Ad "marks" fCauseIs_marks:=⟨a_CauseIs_marks,iCauseIs_marks.fn,iCauseIs_marks.kp⟩;have H_ThingIs_make:Mk K Ae fThingIs___init__:=⟨q_ThingIs.mi,a_ThingIs___init__,iThingIs___init__.fn,q_ThingIs.kp⟩
 have H_ThingIs_holds:Gn K Ae "holds" fThingIs_holds:=⟨a_ThingIs_holds,iThingIs_holds.fn,iThingIs_holds.kp⟩;have H_ThingIs_marks:Gn K Ae "marks" fThingIs_marks:=⟨a_ThingIs_marks,iThingIs_marks.fn,iThingIs_marks.kp⟩;have H_DaysIn_make:Mk K Ag fDaysIn___init__:=⟨q_DaysIn.mi,a_DaysIn___init__,iDaysIn___init__.fn,q_DaysIn.kp⟩;have H_DaysIn_holds:Gn K Ag "holds" fDaysIn_holds:=⟨a_DaysIn_holds,iDaysIn_holds.fn,iDaysIn_holds.kp⟩;have H_DaysIn_marks:Gn K Ag "marks" fDaysIn_marks:=⟨a_DaysIn_marks,iDaysIn_marks.fn,iDaysIn_marks.kp⟩;have H_Over_make:Mk K Al fOver___init__:=⟨q_Over.mi,a_Over___init__,iOver___init__.fn,q_Over.kp⟩;have H_Over_holds:Gn K Al "holds" fOver_holds:=⟨a_Over_holds,iOver_holds.fn,iOver_holds.kp⟩;have H_Over_marks:Gn K Al "marks" fOver_marks:=⟨a_Over_marks,iOver_marks.fn,iOver_marks.kp⟩;have H_Some_make:Mk K Ak fSome___init__:=⟨q_Some.mi,a_Some___init__,iSome___init__.fn,q_Some.kp⟩;have H_Some_holds:Gn K Ak "holds" fSome_holds:=⟨a_Some_holds,iSome_holds.fn,iSome_holds.kp⟩;have H_Some_marks:Gn K Ak "marks" fSome_marks:=⟨a_Some_marks,iSome_marks.fn,iSome_marks.kp⟩;have H_Deal_make:Mk K Am fDeal___init__:=⟨q_Deal.mi,a_Deal___init__,iDeal___init__.fn,q_Deal.kp⟩;have H_Cover_make:Mk K Ac fCover___init__:=⟨q_Cover.mi,a_Cover___init__,iCover___init__,q_Cover.kp⟩;have H_Cover_asks:Gn K Ac "asks" fCover_asks:=⟨a_Cover_asks,iCover_asks.fn,iCover_asks.kp⟩;have H_Cover_spans:Gn K Ac "spans" fCover_spans:=⟨a_Cover_spans,iCover_spans.fn,iCover_spans.kp⟩;have H_Cover_window:Gn K Ac "window" fCover_window:=⟨a_Cover_window,iCover_window.fn,iCover_window.kp⟩
 have H_Cover_parts:Gn K Ac "parts" fCover_parts:=⟨a_Cover_parts,iCover_parts.fn,iCover_parts.kp⟩;have H_Cover_rest:Gn K Ac "rest" fCover_rest:=⟨a_Cover_rest,iCover_rest.fn,iCover_rest.kp⟩;have H_Book_make:Mk K As fBook___init__:=⟨q_Book.mi,a_Book___init__,iBook___init__.fn,q_Book.kp⟩;have H_Counts_make:Mk K At fCounts___init__:=⟨q_Counts.mi,a_Counts___init__,iCounts___init__.fn,q_Counts.kp⟩;have NCondition:IH K mg "Condition" Ab:=⟨q_Condition.mi,ni_Condition,q_Condition.kp,zAv X G q_Condition.ns⟩;have L:Kl K mg Ab Ad Ae Ag Al Ak Am Ac As At:=⟨zAv X G q_Condition.ns,q_Condition.cl,zAv X G q_CauseIs.ns,q_CauseIs.cl,na_CauseIs_name,zAv X G q_ThingIs.ns,q_ThingIs.cl,na_ThingIs_name,zAv X G q_DaysIn.ns,q_DaysIn.cl,na_DaysIn_first,na_DaysIn_last,zAv X G q_Over.ns,q_Over.cl,na_Over_cents,zAv X G q_Some.ns,q_Some.cl,na_Some_several,zAv X G q_Deal.ns,q_Deal.cl,na_Deal_wheel,na_Deal_weights,zAv X G q_Cover.ns,q_Cover.cl,na_Cover_name,na_Cover_condition,na_Cover_clauses,na_Cover_houses,na_Cover_deal,na_Cover_waits,zAv X G q_Book.ns,q_Book.cl,na_Book_covers,na_Book_asking,zAv X G q_Counts.ns,q_Counts.cl,na_Counts_kept,nd_C⟩;have T:Txt K mg:=⟨⟨tk_ANY_OTHER,zAv X G z_ANY_OTHER⟩,⟨tk_CAUSE,zAv X G z_CAUSE⟩,⟨tk_CENTS,zAv X G z_CENTS⟩,⟨tk_COVERED_ONE,zAv X G z_COVERED_ONE⟩,⟨tk_DAY,zAv X G z_DAY⟩,⟨tk_LAST_DAY,zAv X G z_LAST_DAY⟩,⟨tk_LETTERS,zAv X G z_LETTERS⟩,⟨tk_LONGEST_NAME,zAv X G z_LONGEST_NAME⟩,⟨tk_MOST_CELLS,zAv X G z_MOST_CELLS⟩,⟨tk_MOST_CENTS,zAv X G z_MOST_CENTS⟩,⟨tk_MOST_CLAUSES,zAv X G z_MOST_CLAUSES⟩,⟨tk_MOST_COVERS,zAv X G z_MOST_COVERS⟩,⟨tk_MOST_PLACES,zAv X G z_MOST_PLACES⟩,⟨tk_MOST_ROWS,zAv X G z_MOST_ROWS⟩,⟨tk_MOST_TURNS,zAv X G z_MOST_TURNS⟩,⟨tk_THING,zAv X G z_THING⟩,zAL X G z_ValueError,zAL X G z_bool,zAL X G z_enumerate,zAL X G z_int,zAL X G z_isinstance,zAL X G z_len,zAL X G z_list,zAL X G z_max,zAL X G z_min,zAL X G z_range,zAL X G z_set,zAL X G z_sorted,zAL X G z_str,zAL X G z_sum,zAL X G z_zip⟩
 have Z:Xc K mg Bq Cq Ay De Cm Cb Au:=⟨zAv X G q_CoverError,zAv X G q_NoShares,zAv X G q_NoEntry,zAv X G q_NoCover,zAv X G q_NoBook,zAv X G q_NotTold,zAv X G q_TooWide,⟨zAv X G q_TooWide,_,_,_,_,r_TooWide,PySem.F.excBase_ValueError⟩,⟨ga_TooWide,gt_TooWide,cl_TooWide,ob_TooWide,sb_TooWide,ic_TooWide,hd_TooWide,gs,tk⟩,v_TooWide,k_TooWide_NoBook,k_TooWide_NotTold,k_TooWide_TooWide,k_TooWide_NoEntry,h_TooWide_CoverError,⟨zAv X G q_NoEntry,_,_,_,_,r_NoEntry,PySem.F.excBase_ValueError⟩,⟨ga_NoEntry,gt_NoEntry,cl_NoEntry,ob_NoEntry,sb_NoEntry,ic_NoEntry,hd_NoEntry,gs,tk⟩,v_NoEntry,k_NoEntry_NoBook,k_NoEntry_NotTold,k_NoEntry_TooWide,k_NoEntry_NoEntry,h_NoEntry_CoverError⟩;refine⟨zAV "law" "law" (Cy Qn) (Ce Qn) (Ar Qn) .none kV39 dc39 pm39 an39 cd39 ct39,fun s v=>.of_eq rfl,fun base _ _=>?_⟩;have C_law_cell:Cr l.prog w K mg base 1 "_law_cell" ["_law_script", "_law_k"] (Zk K):=D__law_cell.cal fun f fd F=>Vi F T;have KSome:Gw l.prog w K mg base 1 "Some" Ak ["self", "several"] (U3 Ak):=⟨_,_,H_Some_make,Mf F_Some___init__ T L,B_Some___init__,L.mg_Some⟩;have C_law_some:Cr l.prog w K mg base 3 "_law_some" ["_law_parts"] (Uf (A8.mk Ab Ad Ae Ag Al Am Ac Ak)):=D__law_some.cal fun f fd F=>Tv F T L NCondition KSome;have KCauseIs:Gw l.prog w K mg base 1 "CauseIs" Ad ["self", "name"] (Lj Ad "name"):=⟨_,_,H_CauseIs_make,Jj F_CauseIs___init__ L,B_CauseIs___init__,L.mg_CauseIs⟩;have KThingIs:Gw l.prog w K mg base 1 "ThingIs" Ae ["self", "name"] (Lj Ae "name"):=⟨_,_,H_ThingIs_make,Jn F_ThingIs___init__ L,B_ThingIs___init__,L.mg_ThingIs⟩
 have KDaysIn:Gw l.prog w K mg base 1 "DaysIn" Ag ["self", "first", "last"] (P3 Ag):=⟨_,_,H_DaysIn_make,Kn F_DaysIn___init__ L,B_DaysIn___init__,L.mg_DaysIn⟩;have KOver:Gw l.prog w K mg base 1 "Over" Al ["self", "cents"] (Lj Al "cents"):=⟨_,_,H_Over_make,Me F_Over___init__ L,B_Over___init__,L.mg_Over⟩;have Chas_letters_alone:Cr l.prog w K mg base 1 "has_letters_alone" ["text"] U0:=D_has_letters_alone.cal fun f fd F=>Io F T;have Cis_name:Cr l.prog w K mg base 2 "is_name" ["thing"] (Tp K):=D_is_name.cal fun f fd F=>Zq F T Chas_letters_alone;have Ccheck_houses:Cr l.prog w K mg base 3 "check_houses" ["houses"] V1:=D_check_houses.cal fun f fd F=>Oi F T Cis_name;have Cis_whole:Cr l.prog w K mg base 1 "is_whole" ["thing"] (Op K):=D_is_whole.cal fun f fd F=>Yf F T;have Care_weights:Cr l.prog w K mg base 2 "are_weights" ["thing"] Y5:=D_are_weights.cal fun f fd F=>Pk F T Cis_whole;have Cmay_have:Cr l.prog w K mg base 1 "may_have" ["weight", "dealt", "total", "turn"] Zf:=D_may_have.cal fun f fd F=>Xb F T;have Cdue_by:Cr l.prog w K mg base 1 "due_by" ["weight", "dealt", "total"] A1:=D_due_by.cal fun f fd F=>M5 F T;have Cplace_of_turn:Cr l.prog w K mg base 2 "place_of_turn" ["weights", "dealt", "turn"] Q1:=D_place_of_turn.cal fun f fd F=>Mh F T Cmay_have Cdue_by;have Cturns:Cr l.prog w K mg base 3 "turns" ["weights"] V8:=D_turns.cal fun f fd F=>X1 F T Care_weights Cplace_of_turn;have KDeal:Gw l.prog w K mg base 4 "Deal" Am ["self", "weights"] (Y6 Am):=⟨_,_,H_Deal_make,Lz F_Deal___init__ T L Cturns,B_Deal___init__,L.mg_Deal⟩
 have KCover:Gw l.prog w K mg base 6 "Cover" Ac ["self", "name", "condition", "clauses", "houses", "waits"] (A0 Ac):=⟨_,_,H_Cover_make,Lh F_Cover___init__ T L Cis_name Ccheck_houses KDeal,B_Cover___init__,L.mg_Cover⟩;have KBook:Gw l.prog w K mg base 1 "Book" As ["self", "covers"] (Zo Ac As):=⟨_,_,H_Book_make,Mp F_Book___init__ T L,B_Book___init__,L.mg_Book⟩;have C_law_book:Cr l.prog w K mg base 8 "_law_book" ["_law_sizes", "_law_start", "_law_gap", "_law_waits"] (W5 K (A8.mk Ab Ad Ae Ag Al Am Ac Ak) Ac As):=D__law_book.cal fun f fd F=>Uc F T L C_law_some KCauseIs KThingIs KDaysIn KOver KCover KBook;have Cmarked:Cr l.prog w K mg base 1 "marked" ["marks", "sort"] Pe:=D_marked.cal fun f fd F=>M7 F T;have Mmarks_Fam5:Ry l.prog w K mg base 1 (U9 (A8.mk Ab Ad Ae Ag Al Am Ac Ak)) "marks" ["self"] (En (A8.mk Ab Ad Ae Ag Al Am Ac Ak)):=⟨fun C hC=>by
  rcases hC with rfl | rfl | rfl | rfl | rfl
  ·exact⟨⟨_,_,Fq F_Condition_marks L,B_Condition_marks,H_Condition_marks⟩,L.cl_Condition⟩
  ·exact⟨⟨_,_,Hd F_CauseIs_marks L,B_CauseIs_marks,H_CauseIs_marks⟩,L.cl_CauseIs⟩
  ·exact⟨⟨_,_,Gu F_ThingIs_marks L,B_ThingIs_marks,H_ThingIs_marks⟩,L.cl_ThingIs⟩
  ·exact⟨⟨_,_,Hw F_DaysIn_marks L,B_DaysIn_marks,H_DaysIn_marks⟩,L.cl_DaysIn⟩
  ·exact⟨⟨_,_,Jt F_Over_marks L,B_Over_marks,H_Over_marks⟩,L.cl_Over⟩⟩
 have Cmarks_with:Cr l.prog w K mg base 2 "marks_with" ["several"] (DA (A8.mk Ab Ad Ae Ag Al Am Ac Ak)):=D_marks_with.cal fun f fd F=>Rg F Mmarks_Fam5;have Mmarks_Fam6:Ry l.prog w K mg base 3 (V7 (A8.mk Ab Ad Ae Ag Al Am Ac Ak)) "marks" ["self"] (En (A8.mk Ab Ad Ae Ag Al Am Ac Ak)):=⟨fun C hC=>by
  rcases hC with rfl | rfl | rfl | rfl | rfl | rfl
  ·exact⟨⟨_,_,(Fq F_Condition_marks L).mono (by decide),B_Condition_marks,H_Condition_marks⟩,L.cl_Condition⟩
  ·exact⟨⟨_,_,(Hd F_CauseIs_marks L).mono (by decide),B_CauseIs_marks,H_CauseIs_marks⟩,L.cl_CauseIs⟩
  ·exact⟨⟨_,_,(Gu F_ThingIs_marks L).mono (by decide),B_ThingIs_marks,H_ThingIs_marks⟩,L.cl_ThingIs⟩
  ·exact⟨⟨_,_,(Hw F_DaysIn_marks L).mono (by decide),B_DaysIn_marks,H_DaysIn_marks⟩,L.cl_DaysIn⟩
  ·exact⟨⟨_,_,(Jt F_Over_marks L).mono (by decide),B_Over_marks,H_Over_marks⟩,L.cl_Over⟩
  ·exact⟨⟨_,_,Rq F_Some_marks L Cmarks_with,B_Some_marks,H_Some_marks⟩,L.cl_Some⟩⟩
 have Cmarks_of:Cr l.prog w K mg base 4 "marks_of" ["book"] (Gs (A8.mk Ab Ad Ae Ag Al Am Ac Ak) Ac As):=D_marks_of.cal fun f fd F=>Vy F T L Cmarked Mmarks_Fam6;have Cday_stretches:Cr l.prog w K mg base 1 "day_stretches" ["days"] Yz:=D_day_stretches.cal fun f fd F=>Lw F T;have Xcells_of:Zm l.prog w K mg base 5 "cells_of" ["book"] (Jd (A8.mk Ab Ad Ae Ag Al Am Ac Ak) Ac As Au):=D_cells_of.calX fun f fd F=>Nn F T Z Cmarks_of Cday_stretches;have Cis_amount:Cr l.prog w K mg base 2 "is_amount" ["thing"] (Y4 K 999999999999):=D_is_amount.cal fun f fd F=>Uv F T Cis_whole;have Cis_bound:Cr l.prog w K mg base 3 "is_bound" ["thing"] (Vd K):=D_is_bound.cal fun f fd F=>Xe F T Cis_amount;have Cstretches_of:Cr l.prog w K mg base 5 "stretches_of" ["book", "bound"] (F3 (A8.mk Ab Ad Ae Ag Al Am Ac Ak) Ac As):=D_stretches_of.cal fun f fd F=>Nw F T Cmarks_of;have KCounts:Gw l.prog w K mg base 1 "Counts" At ["self"] (P8 At):=⟨_,_,H_Counts_make,Jw F_Counts___init__ T L,B_Counts___init__,L.mg_Counts⟩;have Cname_at:Cr l.prog w K mg base 1 "name_at" ["place"] V5:=D_name_at.cal fun f fd F=>Yw F T;have Canother:Cr l.prog w K mg base 2 "another" ["names"] Jg:=D_another.cal fun f fd F=>A9 F T Cname_at;have Closs_in:Cr l.prog w K mg base 5 "loss_in" ["book", "cell", "cents"] (Qj (A8.mk Ab Ad Ae Ag Al Am Ac Ak) Ac As):=D_loss_in.cal fun f fd F=>A4 F T Cmarks_of Canother;have Mholds_Fam5:Ry l.prog w K mg base 1 (U9 (A8.mk Ab Ad Ae Ag Al Am Ac Ak)) "holds" ["self", "loss"] (Ep (A8.mk Ab Ad Ae Ag Al Am Ac Ak)):=⟨fun C hC=>by
  rcases hC with rfl | rfl | rfl | rfl | rfl
  ·exact⟨⟨_,_,Fy F_Condition_holds L,B_Condition_holds,H_Condition_holds⟩,L.cl_Condition⟩
  ·exact⟨⟨_,_,Gz F_CauseIs_holds T L,B_CauseIs_holds,H_CauseIs_holds⟩,L.cl_CauseIs⟩
  ·exact⟨⟨_,_,Gq F_ThingIs_holds T L,B_ThingIs_holds,H_ThingIs_holds⟩,L.cl_ThingIs⟩
  ·exact⟨⟨_,_,Hy F_DaysIn_holds T L,B_DaysIn_holds,H_DaysIn_holds⟩,L.cl_DaysIn⟩
  ·exact⟨⟨_,_,Js F_Over_holds T L,B_Over_holds,H_Over_holds⟩,L.cl_Over⟩⟩
 have Mholds_Fam6:Ry l.prog w K mg base 2 (V7 (A8.mk Ab Ad Ae Ag Al Am Ac Ak)) "holds" ["self", "loss"] (Ep (A8.mk Ab Ad Ae Ag Al Am Ac Ak)):=⟨fun C hC=>by
  rcases hC with rfl | rfl | rfl | rfl | rfl | rfl
  ·exact⟨⟨_,_,(Fy F_Condition_holds L).mono (by decide),B_Condition_holds,H_Condition_holds⟩,L.cl_Condition⟩
  ·exact⟨⟨_,_,(Gz F_CauseIs_holds T L).mono (by decide),B_CauseIs_holds,H_CauseIs_holds⟩,L.cl_CauseIs⟩
  ·exact⟨⟨_,_,(Gq F_ThingIs_holds T L).mono (by decide),B_ThingIs_holds,H_ThingIs_holds⟩,L.cl_ThingIs⟩
  ·exact⟨⟨_,_,(Hy F_DaysIn_holds T L).mono (by decide),B_DaysIn_holds,H_DaysIn_holds⟩,L.cl_DaysIn⟩
  ·exact⟨⟨_,_,(Js F_Over_holds T L).mono (by decide),B_Over_holds,H_Over_holds⟩,L.cl_Over⟩
  ·exact⟨⟨_,_,Rp F_Some_holds L Mholds_Fam5,B_Some_holds,H_Some_holds⟩,L.cl_Some⟩⟩
 have MCover_asks:Il l.prog w K mg base 3 Ac "asks" ["self", "loss"] (Oj (A8.mk Ab Ad Ae Ag Al Am Ac Ak) Ac):=⟨⟨_,_,Ri F_Cover_asks T L Mholds_Fam6,B_Cover_asks,H_Cover_asks⟩,L.cl_Cover⟩;have Casked_of:Cr l.prog w K mg base 4 "asked_of" ["book", "loss"] (Ow (A8.mk Ab Ad Ae Ag Al Am Ac Ak) Ac As):=D_asked_of.cal fun f fd F=>Ym F T L MCover_asks;have Cnumbers_of:Cr l.prog w K mg base 1 "numbers_of" ["cover", "counts", "loss"] (Ut (A8.mk Ab Ad Ae Ag Al Am Ac Ak) Ac):=D_numbers_of.cal fun f fd F=>Rh F T L;have MCover_spans:Il l.prog w K mg base 1 Ac "spans" ["self", "counts", "cents"] (Lq (A8.mk Ab Ad Ae Ag Al Am Ac Ak) Ac):=⟨⟨_,_,Ov F_Cover_spans T L,B_Cover_spans,H_Cover_spans⟩,L.cl_Cover⟩;have MCover_window:Il l.prog w K mg base 2 Ac "window" ["self", "counts", "cents"] (Va (A8.mk Ab Ad Ae Ag Al Am Ac Ak) Ac):=⟨⟨_,_,Od F_Cover_window T MCover_spans,B_Cover_window,H_Cover_window⟩,L.cl_Cover⟩;have MCover_rest:Il l.prog w K mg base 1 Ac "rest" ["self", "counts"] (Lo (A8.mk Ab Ad Ae Ag Al Am Ac Ak) Ac):=⟨⟨_,_,Rj F_Cover_rest T L,B_Cover_rest,H_Cover_rest⟩,L.cl_Cover⟩;have Ccut_within:Cr l.prog w K mg base 1 "cut_within" ["runs", "lo", "hi"] C5:=D_cut_within.cal fun f fd F=>Rf F T;have Clowest_of:Cr l.prog w K mg base 1 "lowest_of" ["runs", "n"] Pn:=D_lowest_of.cal fun f fd F=>Uq F T;have Cpaid_runs:Cr l.prog w K mg base 3 "paid_runs" ["cover", "numbers", "cents", "unpaid"] (Uh (A8.mk Ab Ad Ae Ag Al Am Ac Ak) Ac):=D_paid_runs.cal fun f fd F=>Us F T MCover_window MCover_rest Ccut_within Clowest_of
 have Cbounds_of:Cr l.prog w K mg base 1 "bounds_of" ["spans", "cents"] Zu:=D_bounds_of.cal fun f fd F=>Ts F T;have Cfirst_without:Cr l.prog w K mg base 1 "first_without" ["spans", "cent"] X2:=D_first_without.cal fun f fd F=>Ly F T;have MCover_parts:Il l.prog w K mg base 2 Ac "parts" ["self", "counts", "cents"] (Pp (A8.mk Ab Ad Ae Ag Al Am Ac Ak) Ac):=⟨⟨_,_,Pf F_Cover_parts T MCover_spans Cbounds_of Cfirst_without,B_Cover_parts,H_Cover_parts⟩,L.cl_Cover⟩;have Cborne_strips:Cr l.prog w K mg base 3 "borne_strips" ["cover", "numbers", "cents", "unpaid"] (Qb (A8.mk Ab Ad Ae Ag Al Am Ac Ak) Ac):=D_borne_strips.cal fun f fd F=>Ob F T L MCover_rest MCover_parts Ccut_within;have Cleft_of_run:Cr l.prog w K mg base 1 "left_of_run" ["run", "others"] A7:=D_left_of_run.cal fun f fd F=>Ph F T;have Ccut_out:Cr l.prog w K mg base 2 "cut_out" ["runs", "others"] Y7:=D_cut_out.cal fun f fd F=>Za F T Cleft_of_run;have Cstrips_of:Cr l.prog w K mg base 5 "strips_of" ["book", "counts", "loss"] (Mg (A8.mk Ab Ad Ae Ag Al Am Ac Ak) Ac As):=D_strips_of.cal fun f fd F=>Ux F T L Casked_of Cnumbers_of Cpaid_runs Cborne_strips Ccut_out;have Cclaim_of:Cr l.prog w K mg base 3 "claim_of" ["cover", "cents"] (Ve (A8.mk Ab Ad Ae Ag Al Am Ac Ak) Ac):=D_claim_of.cal fun f fd F=>Yj F T L MCover_window MCover_rest;have Cclaims_of:Cr l.prog w K mg base 4 "claims_of" ["book", "loss"] (Ql (A8.mk Ab Ad Ae Ag Al Am Ac Ak) Ac As):=D_claims_of.cal fun f fd F=>Tz F T L MCover_asks Cclaim_of;have Crow_of:Cr l.prog w K mg base 6 "row_of" ["book", "cell", "lo", "hi"] (Q0 (A8.mk Ab Ad Ae Ag Al Am Ac Ak) Ac As):=D_row_of.cal fun f fd F=>N0 F T KCounts Closs_in Cstrips_of Cclaims_of
 have Xpaper_of:Zm l.prog w K mg base 7 "paper_of" ["book", "bound"] (Ky K (A8.mk Ab Ad Ae Ag Al Am Ac Ak) Ac As Ay Au):=D_paper_of.calX fun f fd F=>Np F T Z Cis_bound Xcells_of Cstretches_of Crow_of;have C_law_refused:Cr l.prog w K mg base 9 "_law_refused" ["_law_way", "_law_book_here", "_law_bound"] (Q8 K (A8.mk Ab Ad Ae Ag Al Am Ac Ak) Ac As):=D__law_refused.cal fun f fd F=>Nx F T Z Xcells_of Xpaper_of;have Ccells_of:Cr l.prog w K mg base 5 "cells_of" ["book"] (fun vs H Q _=>(Jd (A8.mk Ab Ad Ae Ag Al Am Ac Ak) Ac As Au) vs H Q E0):=D_cells_of.cal fun f fd F=>(Nn F T Z Cmarks_of Cday_stretches).ofX;have Cpaper_of:Cr l.prog w K mg base 7 "paper_of" ["book", "bound"] (fun vs H Q _=>(Ky K (A8.mk Ab Ad Ae Ag Al Am Ac Ak) Ac As Ay Au) vs H Q E0):=D_paper_of.cal fun f fd F=>(Np F T Z Cis_bound Xcells_of Cstretches_of Crow_of).ofX;exact EX F39 T C_law_cell C_law_book C_law_refused Ccells_of Cpaper_of Cstretches_of
theorem walk {l:PySem.W.OpenLaw} {q:Program} {loose:List Str} {XP:(Str->Option Value)->Heap->Prop} {YP:World->Heap->Prop} {d:DefRec} {K:Params->zAa} (hn:l.most=some 63) (hdf:d.params.defaults=[])
  (hY:∀ (w:World) (h:Heap),YP w h->(K w.params).In h)
  (F:∀ (w:World) (mg:Str->Option Value) (fa:Addr) (h:Heap),(K w.params).In h->h.Ns zCy mg->mg d.name=some (.ref fa) ->
   ∃ fd:zCx,(∀ (s:Shared) (u:Value),BindsTo s fd ⟨[u],[]⟩ [("_law_script",u)])/\∀ base:Heap,(K w.params).In base->base.Ns zCy mg->FnOk l.prog w (K w.params) mg base Da 10 fa fd ["_law_script"] (D4 (K w.params))) :
  PySem.W.WalkO q loose XP YP l.row.toRowW d [] (fun f vs=>PySem.call f vs):=
 L2.walk_of (n:=63) (k:=10) (x := "_law_script") (CX:=fun _=>Da) (sp:=fun w=>D4 (K w.params)) hn (by decide) hdf ⟨rfl,by decide,by decide⟩ hY F (fun _ _ a ns hl _ hS=>⟨a,ns,rfl,hS,hl,fun _=>rfl⟩) fun _ _ _ _ _ z=>z
end CRL
open PySem PySem.W PyProof.Rows
namespace PySem.W.Fast
def tw3329637132034024746:=0
def tw14172284486534570966:=0
def tw3505650975002424337:=0
def tw12856880092479209239:=0
def tw2590663375128292961:=0
def tw9458903182214214018:=0
def tw13264436233564098903:=0
def tw16737491562371923799:=0
def tw3725116255490581321:=0
def tw2117860186440913028:=0
def tw15609409704030956235:=0
def tw2355570407288295223:=0
def tw7905442490231154834:=0
def tw4773058639275020540:=0
def tw13947475933233263802:=0
def tw785289916715891227:=0
def tw589713500436929072:=0
def tw14795867010638354301:=0
def tw8532885838342728313:=0
def tw16481990076612884903:=0
def tw12409477797735237801:=0
def tw14824182175184861625:=0
def tw4861658104804140701:=0
def tw16540787481162972334:=0
def tw9993935227950396589:=0
def tw14404146680459427210:=0
def tw208723832667754636:=0
def tw4509206855737287131:=0
def tw16730513634874155420:=0
def tw2627482912981001349:=0
def tw10250755816258262535:=0
def tw16595334956689809196:=0
def tw7395150739000989105:=0
def tw3239951306395887657:=0
def tw564176471817215959:=0
def tw378008066407368937:=0
def tw4480376273955719875:=0
def tw7243864864154484290:=0
def tw7977074178194951047:=0
def tw13266726490083622262:=0
def tw2759933047783973892:=0
def tw2294952835413171334:=0
def tw3616994766842769687:=0
def tw9925692959906138805:=0
def tw12462697829640576573:=0
def tw4021641553220873246:=0
def tw16862347975415266007:=0
def tw17883934611736870435:=0
def tw14799942628430920598:=0
def tw10168775387129233931:=0
def tw1938346463156105155:=0
def tw5805201942952323960:=0
def tw9775823193504560519:=0
def tw8511169376027935104:=0
def tw10302759238709188660:=0
def tw13149477557487794013:=0
def tw9639875202190184542:=0
def tw13964834163951379581:=0
def tw12041963503207025935:=0
def tw6635305003027535220:=0
def tw14458222715295554511:=0
def tw7271780432883544331:=0
def tw881910872460366419:=0
def tw7766070371108595527:=0
def tw4821170428780705050:=0
def tw14985648299740223210:=0
def tw3304711539712393758:=0
def tw4665529294631932282:=0
def tw11343900102599532598:=0
def tw10606772833613826050:=0
def tw17972569620604429942:=0
def tw3128083792679360052:=0
def tw3309614144170478404:=0
def tw11702308170203065750:=0
def tw2267242706997371960:=0
def tw17621131810901827390:=0
def tw1294052273116147550:=0
def tw2435872778031134524:=0
def tw8225358998300129401:=0
def tw1588566376927014184:=0
def tw11017446013677650641:=0
def tw2686244099891694648:=0
def tw6008384309645446836:=0
def tw1703252477170960285:=0
def tw10533212036065164187:=0
def tw2748404330128631941:=0
def tw3055235983112931932:=0
def tw17678267373008194745:=0
def tw12584892005830018838:=0
def tw12777382529996414024:=0
def tw15082933448420846551:=0
def tw4307200097999348675:=0
def tw7255342396049724584:=0
def tw14132046663391779528:=0
def tw4815398623663119511:=0
def tw16387130383646098683:=0
def tw15836303646725075591:=0
def tw14554830559634104841:=0
def tw17299341223294945332:=0
def tw6117327435698925633:=0
def tw742159110023758197:=0
def tw7161950316631447753:=0
def tw13776071185485692284:=0
def tw17736566981053808848:=0
def tw1488881223798751045:=0
def tw17253412954293371880:=0
def tw6425092862901556355:=0
def tw11410631419544092928:=0
def tw9557956938607566704:=0
def tw8798749501350483838:=0
def tw10675975311315694539:=0
def tw16019303322749886203:=0
def tw6567096126864582449:=0
def tw8324402253066858417:=0
def tw3283505830655469145:=0
def tw1930631656246440110:=0
def tw14892702184949260520:=0
def tw3495073851135512876:=0
def tw16215275747217590187:=0
def tw104366279401226436:=0
def tw4360642569452431876:=0
def tw6761820033732876860:=0
def tw13472349523599793823:=0
def tw12778102724807589506:=0
def tw1949653377344232573:=0
def tw8203161147155498249:=0
def tw4020658260560658144:=0
def tw548822513512788212:=0
def tw8037827145497987576:=0
def tw9010807531003304603:=0
def tw9302425004304722465:=0
def tw13801431453239440869:=0
def tw5721735173218474657:=0
def tw13974014244321969818:=0
def tw5149191015446316086:=0
def tw14839305655904171300:=0
def tw16476259766960409945:=0
def tw6712148163307735393:=0
def tw12766740299991566174:=0
def tw10646158833721436876:=0
def tw12647551311785410542:=0
def tw17389691315042278188:=0
def tw14220879848801672537:=0
def tw10114619264803138102:=0
def tw16771048577828258065:=0
def tw3261760169712202323:=0
def tw17196939201748521319:=0
def tw15576510469178101708:=0
def tw4000685065487179844:=0
def tw472849252666259293:=0
def tw17247723486902281379:=0
def tw4274525560345363189:=0
def tw10270012720265448019:=0
def tw8508147583253312778:=0
def tw680680998845245371:=0
def tw2507554911120982089:=0
def tw12055107216523084755:=0
def tw3037484344622761735:=0
def tw5026691263522710603:=0
def tw6132472805734474171:=0
def tw11439194441678210744:=0
def tw4810938872671419620:=0
def tw16934126942177337726:=0
def tw13481964371848983440:=0
def tw3450607329564800238:=0
def tw8077580889061397792:=0
def tw15605302770699997681:=0
def tw201564330759987652:=0
def tw1817638332328884066:=0
def tw13342502847582683228:=0
def tw1272117572417507998:=0
def tw10058242840859056470:=0
def tw15625514020891843308:=0
def tw130932861256013833:=0
def tw9026287585712509360:=0
def tw5225524869248776699:=0
def tw8270245074954601444:=0
def tw11640494070473953999:=0
def tw13265826186097537836:=0
def tw1905750457970167615:=0
def tw8501799439892833541:=0
def tw380341673640858750:=0
def tw16688524814086724160:=0
def tw573832107152319916:=0
def tw15698893798299968554:=0
def tw1253969232766984701:=0
def tw13596560751973023069:=0
def tw18408635994876221708:=0
def tw16055028505099291862:=0
def tw7460068675934514887:=0
def tw9464061069935849285:=0
def tw8939031369858104908:=0
def tw8897150943862598715:=0
def tw7018017704278850862:=0
def tw16602742497309588056:=0
def tw17606938250497217470:=0
def tw9048354470869288363:=0
def tw6329425138355800925:=0
def tw14077965668676215079:=0
def tw5160627164915600933:=0
def tw15498896744155428931:=0
def tw858507608104341513:=0
def tw14766341816286753364:=0
def tw14060204058015761613:=0
def tw12886260207958712846:=0
def tw2213973839769916829:=0
def tw9092570333254653342:=0
def tw1253313470837830424:=0
def tw5361394515176662089:=0
def tw18190725801842453716:=0
def tw11172203889314056808:=0
def tw10702294043012410258:=0
def tw8757076640563176878:=0
def tw14463081910058779029:=0
def tw1531019249134369024:=0
def tw13857886428377390233:=0
def tw10645436860760749265:=0
def tw10024951684588102400:=0
def tw9935961768379304520:=0
def tw16356645065211655372:=0
def tw6257376722823976995:=0
def tw15768350615812004209:=0
def tw10329807933366933117:=0
def tw9287384413554873955:=0
def tw14954339173368559791:=0
def tw16112201326690162142:=0
def tw6849345839613276561:=0
def tw8653677619432684152:=0
def tw3162814077514477168:=0
def tw13978689859484279185:=0
def tw4452600026682264495:=0
def tw11741707812395486527:=0
def tw3503990930248260788:=0
def tw9700379009669576345:=0
def tw17987883677673632494:=0
def tw15615525019877363813:=0
def tw840426543512146459:=0
def tw5116514960575842674:=0
def tw18334187362558109706:=0
def tw14622880719132504811:=0
def tw10207470529279781938:=0
def tw5199896635919740406:=0
def tw14687716133662508178:=0
def tw5294097927250791818:=0
def tw7489676732644970152:=0
def tw6303489506172173451:=0
def tw5467004207541878324:=0
def tw1259902710459283307:=0
def tw5526677679551495233:=0
def tw5691699658542036018:=0
def tw2498623331236053303:=0
def tw3712215080019803215:=0
def tw11876552303022531744:=0
def tw14129462264062191627:=0
def tw18266407226058860291:=0
def tw6472925021586092422:=0
def tw3832240642771934098:=0
def tw3282052335709239522:=0
def tw13475492957924910151:=0
def tw10502674093755793570:=0
def tw5815043598273643674:=0
def tw14268181686644397737:=0
def tw11947644189743219308:=0
def tw9894521327014652267:=0
def tw17485672695120105369:=0
def tw10797717859563877531:=0
def tw7908981098248509686:=0
def tw10785521287286309221:=0
def tw11977097478459205490:=0
def tw8450980102273331274:=0
def tw5800153676934471023:=0
def tw15678858529140042546:=0
def tw8155752610658985434:=0
def tw6761657939173509623:=0
def tw15186563013757143746:=0
def tw3478452326779929904:=0
def tw13191145544438927453:=0
def tw7627454979070871599:=0
def tw3093088105969004115:=0
def tw7947388007515126259:=0
def tw4018447166761051999:=0
def tw15643201060753272200:=0
def tw12171664991403310025:=0
def tw12086274716070096068:=0
def tw1780009442375283139:=0
def tw16255786780080682355:=0
def tw98231886297914414:=0
def tw12423905621133428916:=0
def tw926190307415217925:=0
def tw13389418443521805122:=0
def tw488691245822851294:=0
def tw3607626289357793455:=0
def tw16627739439958343554:=0
def tw6720195465912614538:=0
def tw1371234697262363865:=0
def tw1627287465755172676:=0
def tw2768695791859657577:=0
def tw13758579830587012469:=0
def tw6205347300579108548:=0
def tw9299370363331482732:=0
def tw13548532198762554123:=0
def tw8795973114942151585:=0
def tw2602622148847687626:=0
def tw12562987862388917673:=0
def tw16915120314580076170:=0
def tw9250462737314192486:=0
def tw5888521203726902933:=0
def tw18221711738465301148:=0
def tw6779466957403399698:=0
def tw4985684778078726160:=0
def tw12746823288877140947:=0
def tw692816958535655430:=0
def tw2846854039382281466:=0
def tw2099525634283732413:=0
def tw8126839800859926937:=0
def tw5765450505101172686:=0
def tw3410485741405319173:=0
def tw15508553080185619935:=0
def tw1050456537203039040:=0
def tw9294215753217010487:=0
def tw16395339961216549634:=0
def tw5531565308427550409:=0
def tw1752454824612446939:=0
def tw1375138133493221589:=0
def tw16150319692221409243:=0
def tw14986933480060950754:=0
def tw9053765185972103710:=0
def tw6801931181190124418:=0
def tw10551179078508667602:=0
def tw2214724855428899700:=0
def tw2683370399235889491:=0
def tw8634255851596572700:=0
def tw6611140287347079096:=0
def tw14617973675068178915:=0
def tw13457678668453422201:=0
def tw4482193045477593646:=0
def tw4007015054659867090:=0
def tw8102201961598123409:=0
def tw365696227903688538:=0
def tw10113718353198726365:=0
def tw5337008894259540043:=0
def tw14790990405894813154:=0
def tw616734388637605751:=0
def tw4416607420594468748:=0
def tw12073612633977259836:=0
def tw11059698107353130389:=0
def tw6590134272378869164:=0
def tw6232206492841460774:=0
def tw354463997220840618:=0
def tw16566156723620136656:=0
def tw15051989521895105768:=0
def tw2227245931284131326:=0
def tw1552324460852680482:=0
def tw14411414877147832421:=0
def tw12090779584868554763:=0
def tw11912748305158149893:=0
def tw9259990217053276421:=0
def tw581428088847270891:=0
def tw4750771546443155301:=0
def tw14990339803217443680:=0
def tw11075838786310855266:=0
def tw3932499373038688327:=0
def tw15490389166348168056:=0
def tw10481145707235882638:=0
def tw9546947480867428582:=0
def tw9459641063345513243:=0
def tw9308251518963373356:=0
def tw9251494663091087865:=0
def tw9185495802254269837:=0
def tw8996156712441335957:=0
def tw883218503449527483:=0
def tw869861646856413759:=0
def tw8186643549080014020:=0
def tw4835946839839140399:=0
def tw4610734013565389920:=0
def tw4100603760896154310:=0
def tw17376557048908513814:=0
def tw16196439494697911132:=0
def tw16066494899639826690:=0
def tw15534730904495913476:=0
def tw15286440821870891949:=0
def tw14181726295452020109:=0
def tw13714960487420052226:=0
def tw1358032855745069967:=0
def tw13576822549854316558:=0
def tw12788978495731351604:=0
def tw1168328007056460893:=0
def tw11237099962283103030:=0
def tw11063138967821116323:=0
def tw1087847517551077120:=0
def tw10733431339644759331:=0
def tw8519914941117056699:=0
def tw1570595183034635164:=0
def tw7378513593635164184:=0
def tw3029172250319103566:=0
def tw7898359482763035403:=0
def tw5595693537159961106:=0
def tw16777526197359291192:=0
def tw1613911763846690599:=0
def tw14531725743568811798:=0
def tw12632053558828745468:=0
def tw2120863452878108250:=0
def tw16041748337636683028:=0
def tw9347889377067360187:=0
def tw874034880935550457:=0
def tw9056956054795267562:=0
def tw3385554523984872789:=0
def tw3389807268035943627:=0
def tw2629258754588258724:=0
def tw17314330610335464954:=0
def tw15782517251544750565:=0
def tw14027857695809596760:=0
def tw10887799113133439169:=0
def tw4634258665145735979:=0
def tw9226392875961018780:=0
def tw9166945394702016320:=0
def tw8851016868971540512:=0
def tw8766071785189679503:=0
def tw7386237206067178682:=0
def tw6289714879005915127:=0
def tw5660262247307611991:=0
def tw5350341418206537281:=0
def tw4799213885908396004:=0
def tw4206945837161483034:=0
def tw3839386174243346862:=0
def tw282498193843452636:=0
def tw2524694314683586877:=0
def tw2011944213126380376:=0
def tw17131436507686550226:=0
def tw17071665620820204048:=0
def tw14910199747002552744:=0
def tw13858834774789196056:=0
def tw12143165792747765428:=0
def tw12040123289619288147:=0
def tw11751992549969955997:=0
def tw14444618010932914807:=0
def tw8944278930134901288:=0
def tw18000177582047214791:=0
def tw7021985053519060247:=0
def tw11243122664188262736:=0
def tw778211934098774296:=0
def tw15175268099516720065:=0
def tw4595832337179027225:=0
def tw3185429229549933825:=0
def tw6670666083723408709:=0
def tw6161395933705478258:=0
def tw5011591011401729802:=0
def tw1863961491094449799:=0
def tw16684662404624859483:=0
def tw15981283367088285781:=0
def tw12137734541858445440:=0
def tw1047463913194114463:=0
def tw11650477987991761175:=0
def tw13740587625048115392:=0
def tw15398536153331655554:=0
def tw14401327173552873336:=0
def tw5776630668117900379:=0
def tw6378698197252932090:=0
def tw11636829840107721921:=0
def tw4988825110814956851:=0
def tw4556655265343636923:=0
def tw14593734230655874457:=0
def tw9656568641360973517:=0
def tw8259948018981213237:=0
def tw5488644707711752266:=0
def tw1843848476463929044:=0
def tw11817223485042678229:=0
def tw4896657800616496951:=0
def tw18051456140567229574:=0
end PySem.W.Fast
set_option tactic.hygienic true in
set_option maxRecDepth 100000 in
set_option maxHeartbeats 0 in
theorem PySem.Challenge.cw_coverroll_k89_too_wide_holds : PySem.Challenge.rw_coverroll_k89_too_wide.Holds := by
 w_on; o_law; k_head; (case hw=>w_witness2)
 k_fill
 refine CRL.walk (l:=PySem.Challenge.rw_coverroll_k89_too_wide) rfl rfl (fun w h Y=>PySem.W.kIn_of Y) ?F
 case F=>
  intro w mg fa h KX G hmg
  refine' CRL.all_mk KX G hmg ?d0 ?d1 ?d2 ?d3 ?d4 ?d5 ?d6 ?d7 ?d8 ?d9 ?d10 ?d11 ?d12 ?d13 ?d14 ?d15 ?d16 ?d17 ?d18 ?d19 ?d20 ?d21 ?d22 ?d23 ?d24 ?d25 ?d26 ?d27 ?d28 ?d29 ?d30 ?d31 ?d32 ?d33 ?d34 ?d35 ?d36 ?d37 ?d38 ?d39 ?q_Condition ?q_CauseIs ?na_CauseIs_name ?q_ThingIs ?na_ThingIs_name ?q_DaysIn ?na_DaysIn_first ?na_DaysIn_last ?q_Over ?na_Over_cents ?q_Some ?na_Some_several ?q_Deal ?na_Deal_wheel ?na_Deal_weights ?q_Cover ?na_Cover_name ?na_Cover_condition ?na_Cover_clauses ?na_Cover_houses ?na_Cover_deal ?na_Cover_waits ?q_Book ?na_Book_covers ?na_Book_asking ?q_Counts ?na_Counts_kept ?nd_C ?a_Condition_holds ?iCondition_holds ?a_Condition_marks ?iCondition_marks ?a_CauseIs___init__ ?iCauseIs___init__ ?a_CauseIs_holds ?iCauseIs_holds ?a_CauseIs_marks ?iCauseIs_marks ?a_ThingIs___init__ ?iThingIs___init__ ?a_ThingIs_holds ?iThingIs_holds ?a_ThingIs_marks ?iThingIs_marks ?a_DaysIn___init__ ?iDaysIn___init__ ?a_DaysIn_holds ?iDaysIn_holds ?a_DaysIn_marks ?iDaysIn_marks ?a_Over___init__ ?iOver___init__ ?a_Over_holds ?iOver_holds ?a_Over_marks ?iOver_marks ?a_Some___init__ ?iSome___init__ ?a_Some_holds ?iSome_holds ?a_Some_marks ?iSome_marks ?a_Deal___init__ ?iDeal___init__ ?a_Cover___init__ ?iCover___init__ ?lCover___init__ ?cCover___init__ ?kCover___init__ ?dlCover___init__ ?a_Cover_asks ?iCover_asks ?a_Cover_spans ?iCover_spans ?a_Cover_window ?iCover_window ?a_Cover_parts ?iCover_parts ?a_Cover_rest ?iCover_rest ?a_Book___init__ ?iBook___init__ ?a_Counts___init__ ?iCounts___init__ ?ni_Condition ?z_ANY_OTHER ?z_CAUSE ?z_CENTS ?z_COVERED_ONE ?z_DAY ?z_LAST_DAY ?z_LETTERS ?z_LONGEST_NAME ?z_MOST_CELLS ?z_MOST_CENTS ?z_MOST_CLAUSES ?z_MOST_COVERS ?z_MOST_PLACES ?z_MOST_ROWS ?z_MOST_TURNS ?z_THING ?z_ValueError ?z_bool ?z_enumerate ?z_int ?z_isinstance ?z_len ?z_list ?z_max ?z_min ?z_range ?z_set ?z_sorted ?z_str ?z_sum ?z_zip ?q_CoverError ?q_NoShares ?q_NoEntry ?q_NoCover ?q_NoBook ?q_NotTold ?q_TooWide ?r_TooWide ?ga_TooWide ?gt_TooWide ?cl_TooWide ?ob_TooWide ?sb_TooWide ?ic_TooWide ?hd_TooWide ?gs ?tk ?v_TooWide ?k_TooWide_NoBook ?k_TooWide_NotTold ?k_TooWide_TooWide ?k_TooWide_NoEntry ?h_TooWide_CoverError ?r_NoEntry ?ga_NoEntry ?gt_NoEntry ?cl_NoEntry ?ob_NoEntry ?sb_NoEntry ?ic_NoEntry ?hd_NoEntry ?v_NoEntry ?k_NoEntry_NoBook ?k_NoEntry_NotTold ?k_NoEntry_TooWide ?k_NoEntry_NoEntry ?h_NoEntry_CoverError
  (case q_Condition|q_CauseIs|q_ThingIs|q_DaysIn|q_Over|q_Some|q_Deal|q_Cover|q_Book|q_Counts => (constructor <;> k_is))
  (case na_CauseIs_name|na_ThingIs_name|na_DaysIn_first|na_DaysIn_last|na_Over_cents|na_Some_several|na_Deal_wheel|na_Deal_weights|na_Cover_name|na_Cover_condition|na_Cover_clauses|na_Cover_houses|na_Cover_deal|na_Cover_waits|na_Book_covers|na_Book_asking|na_Counts_kept|a_Condition_holds|a_Condition_marks|a_CauseIs___init__|a_CauseIs_holds|a_CauseIs_marks|a_ThingIs___init__|a_ThingIs_holds|a_ThingIs_marks|a_DaysIn___init__|a_DaysIn_holds|a_DaysIn_marks|a_Over___init__|a_Over_holds|a_Over_marks|a_Some___init__|a_Some_holds|a_Some_marks|a_Deal___init__|a_Cover___init__|iCover___init__|lCover___init__|cCover___init__|kCover___init__|dlCover___init__|a_Cover_asks|a_Cover_spans|a_Cover_window|a_Cover_parts|a_Cover_rest|a_Book___init__|a_Counts___init__|ni_Condition|z_ANY_OTHER|z_CAUSE|z_CENTS|z_COVERED_ONE|z_DAY|z_LAST_DAY|z_LETTERS|z_LONGEST_NAME|z_MOST_CELLS|z_MOST_CENTS|z_MOST_CLAUSES => k_is)
  (case z_MOST_COVERS|z_MOST_PLACES|z_MOST_ROWS|z_MOST_TURNS|z_THING|z_ValueError|z_bool|z_enumerate|z_int|z_isinstance|z_len|z_list|z_max|z_min|z_range|z_set|z_sorted|z_str|z_sum|z_zip|q_CoverError|q_NoShares|q_NoEntry|q_NoCover|q_NoBook|q_NotTold|q_TooWide|ga_TooWide|gt_TooWide|cl_TooWide|ob_TooWide|sb_TooWide|ic_TooWide|hd_TooWide|gs|tk|ga_NoEntry|gt_NoEntry|cl_NoEntry|ob_NoEntry|sb_NoEntry|ic_NoEntry|hd_NoEntry => k_is)
  (case r_TooWide|r_NoEntry => k_exc)
  (case h_TooWide_CoverError|h_NoEntry_CoverError => kts_exm)
  (case d0|d1|d2|d3|d4|d5|d6|d7|d8|d9|d10|d11|d12|d13|d14|d15|d16|d17|d18|d19|d20|d21|d22|d23|d24|d25|d26|d27|d28|d29|d30|d31|d32|d33|d34|d35|d36|d37|d38|d39 => (apply L2.DfIn.of <;> k_is))
  (case iCondition_holds|iCondition_marks|iCauseIs___init__|iCauseIs_holds|iCauseIs_marks|iThingIs___init__|iThingIs_holds|iThingIs_marks|iDaysIn___init__|iDaysIn_holds|iDaysIn_marks|iOver___init__|iOver_holds|iOver_marks|iSome___init__|iSome_holds|iSome_marks|iDeal___init__|iCover_asks|iCover_spans|iCover_window|iCover_parts|iCover_rest|iBook___init__|iCounts___init__ => (apply L2.MtIn.of <;> k_is))
  (case v_TooWide|k_TooWide_NoBook|k_TooWide_NotTold|k_TooWide_TooWide|k_TooWide_NoEntry|v_NoEntry|k_NoEntry_NoBook|k_NoEntry_NotTold|k_NoEntry_TooWide|k_NoEntry_NoEntry => kit_is)
  (case nd_C => decide)

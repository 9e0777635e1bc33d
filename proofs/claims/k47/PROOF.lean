import PyProof.Rows.All
import Wide.All
import OpenK.AllK
import Wide.FinOn
import Lean
import PyProof.EqAt
import PyProof.EqKinds
import PyProof.TupleCall
import PySem.Challenge.RW_coverroll_k47_whole_those_that_wait
set_option tactic.hygienic false
set_option Elab.async false
set_option linter.all false
set_option maxRecDepth 100000
set_option maxHeartbeats 4000000
open PySem.W renaming Frag -> zAa, findIn -> zAc, mg_of -> zAB, nsIn -> zAF, mg_none_of -> zAP, emptyDict -> zAS, keepIn -> zAT, kitOne -> zAV, fnOf -> zAW, instObj -> zBa, kia_one -> zBi, codeIn -> zBo, callWith_K -> zBB, methodCall_KW -> zBV, plainGet -> zCc, makesIn -> zCm, isFn -> zCp, hasDictIn -> zCu, specialIn -> zCv, mroIn -> zCx
open List renaming length_map -> zAb, getElem?_eq_getElem -> zAe, mem_cons_of_mem -> zAf, length_cons -> zAg, size_toArray -> zAh, getElem?_eq_some_iff -> zAi, mem_cons_self -> zAj, mem_singleton -> zAk, mem_cons -> zAn, length_append -> zAo, map_append -> zAq, mem_map -> zAr, getElem?_map -> zAs, getD_eq_getElem?_getD -> zAt, length_take -> zAx, mem_append -> zAy, replicate -> zAz, take_length -> zAA, mem_of_getElem? -> zAE, map_cons -> zAH, length_filter_le -> zAI, mem_filter -> zAL, range -> zAM, append_nil -> zAN, pairwise_cons -> zAO, length_range -> zAQ, mem_append_right -> zAR, nodup_cons -> zAX, getElem_of_mem -> zAY, map_map -> zBb, getElem_mem -> zBc, not_mem_nil -> zBd, pairwise_iff_getElem -> zBe, length_replicate -> zBg, filter_append -> zBj, replicate_succ -> zBr, nodup_iff_pairwise_ne -> zBs, mem_range -> zBt, drop_eq_getElem_cons -> zBu, flatten_cons -> zBv, lookup_cons -> zBy, drop_length -> zBz, filter_filter -> zBC, append_assoc -> zBE, pairwise_map -> zBF, take_zero -> zBG, length_erase_of_mem -> zBH, mem_flatten -> zBI, filter_sublist -> zBJ, filter_cons_of_pos -> zBK, filter_cons_of_neg -> zBL, find?_cons -> zBM, range_succ -> zBO, filter_nil -> zBP, length_pos_of_mem -> zBR, filter_eq_nil_iff -> zBS, drop_sublist -> zBT, nodup_append -> zBU, map_nil -> zBW, getElem?_eq_none -> zBZ, getElem?_toArray -> zCa, mem_append_left -> zCb, getElem_toArray -> zCd, mem_erase_of_ne -> zCf, any_eq_true -> zCg, getElem?_append_right -> zCh, lookup -> zCj, filterMap_cons -> zCk, length_zipWith -> zCl, length_nil -> zCo, eq_of_mem_replicate -> zCr, nodup_nil -> zCt, zipWith_cons_cons -> zCw, all_cons -> zCy, any_cons -> zCz, length_drop -> zCA, all_eq_true -> zCB
open PySem.Heap renaming get?_push_of_some -> zAd, lt_size -> zAp, get?_push_size -> zAu, SameBut -> zAU, size_push -> zBn, get?_update_other -> zBQ, get?_update_self -> zBX
open Nat renaming le_refl -> zAl, ne_of_lt -> zAw, zero_le -> zAD, le_trans -> zAG, lt_of_lt_of_le -> zAK, ne_of_gt -> zBk, le_succ -> zBl, lt_irrefl -> zBm, not_lt_zero -> zBq, lt_succ_of_lt -> zBw, lt_succ_self -> zBx, lt_trichotomy -> zBD, lt_of_le_of_lt -> zCq
open Bool renaming false_ne_true -> zAm, and_eq_true -> zAv, eq_false_iff -> zBf, not_eq_true' -> zBp, false_eq_true -> zBN, and_false -> zBY, false_and -> zCs
open Array renaming length_toList -> zAC, getElem?_eq_getElem -> zAZ, getElem?_toList -> zBh, getElem?_eq_none -> zBA, getD -> zCe, perm_iff_toList_perm -> zCi
open Option renaming map_eq_some_iff -> zAJ, map_some -> zCn
open PySem renaming wpAny_bind -> zCC, wpAny_pure -> zCD, sizeLine_eq -> zCE, bootBuiltins -> zCF, FuncData -> zCG, mainGlobals -> zCH
namespace L2
open PySem PySem.Spec PyProof.Rows
abbrev Dt:=Sum Int Str
def Uv:Dt->Value->Bool
 | .inl k,v=>Value.isInt k v
 | .inr x,v=>Value.isStrOf x v
def NP (w:World):Dt->Int
 | .inl k=>hashInt k
 | .inr x=>hashStr w x
theorem Dg:∀ {k:Dt} {v:Value},Uv k v=true->(∃ i t,k=Sum.inl i/\v=Value.int i t)\/(∃ x t,k=Sum.inr x/\v=Value.str x t)
 | .inl i,v,h=>by
  obtain⟨t,e⟩:=Value.isInt_shape (k:=i) (v:=v) h;exact .inl ⟨i,t,rfl,e⟩
 | .inr x,v,h=>by
  obtain⟨t,e⟩:=Value.isStrOf_shape (x:=x) (v:=v) h;exact .inr ⟨x,t,rfl,e⟩
theorem Z9 (i:Int) (t:Tok):Uv (.inl i) (.int i t)=true:=by simp [Uv,Value.isInt]
theorem Z7 (x:Str) (t:Tok):Uv (.inr x) (.str x t)=true:=by simp [Uv,Value.isStrOf]
theorem KJ (a b:Int):decide ((Sum.inl a:Dt)=Sum.inl b)=(a==b):=by
 by_cases e:a=b
 ·subst e; simp
 ·have h:¬ (Sum.inl a:Dt)=Sum.inl b:=fun q=>e (Sum.inl.inj q)
  rw[decide_eq_false h];exact (beq_eq_false_iff_ne.mpr e).symm
theorem IK (a b:Str):decide ((Sum.inr a:Dt)=Sum.inr b)=decide (a=b):=by
 by_cases e:a=b
 ·subst e; simp
 ·have h:¬ (Sum.inr a:Dt)=Sum.inr b:=fun q=>e (Sum.inr.inj q)
  rw[decide_eq_false h,decide_eq_false e]
theorem JA (a:Int) (b:Str):decide ((Sum.inl a:Dt)=Sum.inr b)=false:=decide_eq_false (fun q=>nomatch q)
theorem JL (a:Str) (b:Int):decide ((Sum.inr a:Dt)=Sum.inl b)=false:=decide_eq_false (fun q=>nomatch q)
def Dl (prog:Program) (w:World):PySem.KeyKind prog w Dt where
 is:=Uv
 hash:=NP w
 inj:=fun v a b ha hb=>by
  rcases Dg ha with ⟨i,t,rfl,rfl⟩ | ⟨x,t,rfl,rfl⟩
  ·rcases Dg hb with ⟨j,u,rfl,e⟩ | ⟨y,u,rfl,e⟩
   ·injection e with e1 _; rw[e1]
   ·exact nomatch e
  ·rcases Dg hb with ⟨j,u,rfl,e⟩ | ⟨y,u,rfl,e⟩
   ·exact nomatch e
   ·injection e with e1 _; rw[e1]
 byValue:=fun k v h=>by
  rcases Dg h with ⟨i,t,rfl,rfl⟩ | ⟨x,t,rfl,rfl⟩ <;> rfl
 pyHash:=fun hv h=>by
  rcases Dg hv with ⟨i,t,rfl,rfl⟩ | ⟨x,t,rfl,rfl⟩
  ·exact wpAny_pyHash_int h
  ·exact wpAny_pyHash_str h
 eqBool:=fun hu hv h=>by
  rcases Dg hu with ⟨i,t,rfl,rfl⟩ | ⟨x,t,rfl,rfl⟩
  ·rcases Dg hv with ⟨j,u,rfl,rfl⟩ | ⟨y,u,rfl,rfl⟩
   ·rw[KJ] at h; exact wpAny_eqBool_int h
   ·rw[JA] at h; exact SeqAt.EqAt.int_str i t y u _ _ _ _ h
  ·rcases Dg hv with ⟨j,u,rfl,rfl⟩ | ⟨y,u,rfl,rfl⟩
   ·rw[JL] at h; exact SeqAt.EqAt.str_int x t j u _ _ _ _ h
   ·rw[IK] at h; exact wpAny_eqBool_str h
 «strs» := fun k x t v h=>by
  rcases Dg h with ⟨i,u,rfl,e⟩ | ⟨y,u,rfl,e⟩
  ·exact nomatch e
  ·injection e with e1 _
   subst e1;cases v <;> rfl
theorem Zs (prog:Program) (w:World) (i:Int) (t:Tok):(Dl prog w).is (.inl i) (.int i t)=true:=Z9 i t
theorem Ys (prog:Program) (w:World) (x:Str) (t:Tok):(Dl prog w).is (.inr x) (.str x t)=true:=Z7 x t
inductive V where
 | non | bl (b:Bool) | int (i:Int) | str (x:Str) | byt (b:Array UInt8) | flt (b:UInt64) | ref (a:Addr) | ty (n:String)
 deriving DecidableEq
def RelV:V->Value->Prop
 | .non,u=>u=Value.none
 | .bl b,u=>u=Value.bool b
 | .int i,u=>∃ t,u=Value.int i t
 | .str x,u=>∃ t,u=Value.str x t
 | .byt b,u=>∃ t,u=Value.bytes b t
 | .flt b,u=>∃ t,u=Value.float b t
 | .ref a,u=>u=Value.ref a
 | .ty n,u=>u=Value.type n
abbrev Vals:List V->List Value->Prop:=Paired RelV
theorem Vals.length {xs:List V} {us:List Value} (r:Vals xs us):xs.length=us.length:=Paired.length r
theorem Vals.get:∀ {xs:List V} {us:List Value} {i:Nat} {x:V},Vals xs us->xs[i]?=some x->∃ u,us[i]?=some u/\RelV x u
 | _,_,_,_,.nil,e=>by simp at e
 | _,_,0,_,.cons r _,e=>by simp at e; subst e; exact⟨_,rfl,r⟩
 | _,_,i+1,x,.cons _ t,e=>by
  obtain⟨u,h1,h2⟩:=Vals.get (i:=i) (x:=x) t (by simpa using e);exact⟨u,by simpa using h1,h2⟩
theorem Vals.set {x:V} {u:Value} (r:RelV x u):∀ {xs:List V} {us:List Value} (i:Nat),Vals xs us->Vals (xs.set i x) (us.set i u)
 | _,_,_,.nil=>.nil
 | _,_,0,.cons _ t=>.cons r t
 | _,_,i+1,.cons q t=>.cons q (Vals.set r i t)
theorem Vals.append:∀ {xs ys:List V} {us ws:List Value},Vals xs us->Vals ys ws->Vals (xs++ys) (us++ws)
 | _,_,_,_,.nil,s=>s
 | _,_,_,_,.cons r t,s=>.cons r (Vals.append t s)
theorem Vals.take:∀ {xs:List V} {us:List Value} (n:Nat),Vals xs us->Vals (xs.take n) (us.take n)
 | _,_,0,_=>.nil
 | _,_,_+1,.nil=>.nil
 | _,_,n+1,.cons r t=>.cons r (Vals.take n t)
theorem Vals.drop:∀ {xs:List V} {us:List Value} (n:Nat),Vals xs us->Vals (xs.drop n) (us.drop n)
 | _,_,0,r=>r
 | _,_,_+1,.nil=>.nil
 | _,_,n+1,.cons _ t=>Vals.drop n t
def RelO:Option V->Option Value->Prop
 | some v,some u=>RelV v u
 | none,none=>True
 | _,_=>False
def KV {κ:Type}:List (κ×V)->List (κ×Value)->Prop:=Paired fun (p:κ×V) (q:κ×Value)=>p.1=q.1/\RelV p.2 q.2
def kV:Dt->V
 | .inl i=>.int i
 | .inr x=>.str x
inductive HO where
 | lst (xs:List V)
 | tup (xs:List V)
 | dK (kvs:List (Dt×V)) | dT (kvs:List (List Dt×V))
 | set (S:Int->Bool) (n:Nat)
 | ins (C dx:Addr) (fs:List (Str×V))
 | own (x:Addr)
 | xd (fs:List (Str×V))
 | met (f x:Addr)
 | rng (lo hi:Int)
 | frz (o:Obj) (u:HO)
 | tbl (ps:Array Value)
 | ext (φ:Heap->Prop)
abbrev Hp:=Addr->Option HO
def upd (H:Hp) (a:Addr) (o:HO):Hp:=fun b=>if b=a then some o else H b
theorem Ab {H:Hp} {a:Addr} {o:HO}:upd H a o a=some o:=by unfold upd; rw[if_pos rfl]
theorem Ar {H:Hp} {a b:Addr} {o:HO} (h:b≠a):upd H a o b=H b:=by unfold upd; rw[if_neg h]
theorem Iz {H:Hp} {a b:Addr} {o u:HO} (h:H a=some o) (h':H b=some u) (d:o≠u):a≠b:=by
 intro e; subst e; rw[h] at h'; exact d (Option.some.inj h')
theorem Ap {H:Hp} {a b:Addr} {o:HO} (h:H a=some o) (h':H b=none):a≠b:=by
 intro e; subst e; rw[h] at h'; cases h'
section
variable (P:Program) (w:World)
def ObjOk (H:Hp) (h:Heap) (a:Addr):HO->Prop
 | .lst xs=>xs.length<=sizeLine/\∃ (its:List Value) (n:Nat),Vals xs its/\h.get? a=some { cls:=.type "list",data:=.seq its.toArray n }
 | .tup xs=>xs.length<=sizeLine/\∃ its:List Value,Vals xs its/\IsTup h a its.toArray
 | .dK kvs=>kvs.length<=sizeLine/\(a==sysModules)=false/\∃ vs,KV kvs vs/\h.DictOf (Dl P w) a vs
 | .dT kvs=>kvs.length<=sizeLine/\(a==sysModules)=false/\∃ xs:List (List Dt×Addr×Value),
   Paired (fun (p:List Dt×V) (q:List Dt×Addr×Value)=>p.1=q.1/\H q.2.1=some (.tup (p.1.map kV))/\RelV p.2 q.2.2) kvs xs /\
   ∃ o es ep,h.get? a=some o/\o.ExactDict/\o.data = .dict es ep/\es.toList=xs.map (entryOfKey (tupleKind (Dl P w)))/\(xs.map (·.1)).Nodup
 | .set S n=>h.SetOf (intKind P w) a S n
 | .ins C dx fs=>H dx=some (.own a)/\fs.length<=1000/\dx≠a/\h.get? a=some (zBa C dx) /\
   ∃ mA,h.Ns1 dx mA/\(∀ f,RelO (fs.lookup f) (mA f))/\PySem.Within mA (fs.map (·.1))
 | .own _=>∃ o,h.get? a=some o
 | .xd fs=>∃ mA,h.Ns1 a mA/\∀ f,RelO (fs.lookup f) (mA f)
 | .rng lo hi=>∃ t u v,h.get? a=some { cls:=.type "range",data:=.fields #[.int lo t,.int hi u,.int 1 v] }
 | .frz o u=>h.get? a=some o/\ObjOk H h a u
 | .tbl ps=>h.get? a=some { cls:=.none,data:=.fields ps }
 | .met f x=>h.get? a=some (PySem.W.methodObj (.ref f) (.ref x))
 | .ext φ=>φ h/\(∃ o,h.get? a=some o)/\∀ h1 h2:Heap,φ h1->(∀ o,h1.get? a=some o->h2.get? a=some o)->φ h2
def HOk (H:Hp) (h:Heap):Prop:=∀ a o,H a=some o->ObjOk P w H h a o
end
section
variable {P:Program} {w:World} {H H':Hp} {h h':Heap} {a:Addr} {o:HO}
theorem ObjOk.lt (x:ObjOk P w H h a o):a<h.objs.size:=by
 cases o with
 | lst xs=>obtain⟨_,_,_,_,e⟩:=x; exact zAp e
 | tup xs=>obtain⟨_,_,_,p⟩:=x; exact p.lt
 | dK kvs=>obtain⟨_,_,_,_,o,_,_,e,_⟩:=x; exact zAp e
 | dT kvs=>obtain⟨_,_,_,_,o,_,_,e,_⟩:=x; exact zAp e
 | set S n=>obtain⟨o,_,_,_,e,_⟩:=x; exact zAp e
 | ins C dx fs=>obtain⟨_,_,_,e,_⟩:=x; exact zAp e
 | own y=>obtain⟨_,e⟩:=x; exact zAp e
 | xd fs=>obtain⟨_,⟨_,_,_,e,_⟩,_⟩:=x; exact zAp e
 | rng lo hi=>obtain⟨_,_,_,e⟩:=x; exact zAp e
 | frz ob u=>obtain⟨e,_⟩:=x; exact zAp e
 | tbl ps=>exact zAp (show h.get? a=some _ from x)
 | met f y=>exact zAp (show h.get? a=some _ from x)
 | ext φ=>obtain⟨_,⟨_,e⟩,_⟩:=x; exact zAp e
theorem Paired.mapP {α β:Type} {F G:α->β->Prop}:∀ {l₁ : List α} {l₂ : List β},Paired F l₁ l₂ -> (∀ a b,F a b->G a b)->Paired G l₁ l₂
 | _,_,.nil,_=>.nil
 | _,_,.cons r t,f=>.cons (f _ _ r) (Paired.mapP t f)
theorem ObjOk.stay (x:ObjOk P w H h a o) (k:∀ b u,(b=a\/H b=some (.own a))->h.get? b=some u->h'.get? b=some u)
  (ho:∀ b,H b=some (.own a)->H' b=some (.own a)) (ht:∀ b xs,H b=some (.tup xs)->H' b=some (.tup xs)):ObjOk P w H' h' a o:=by
 induction o with
 | lst xs=>obtain⟨z,its,n,r,e⟩:=x; exact⟨z,its,n,r,k _ _ (.inl rfl) e⟩
 | tup xs=>obtain⟨z,its,r,ob,e,c⟩:=x; exact⟨z,its,r,ob,k _ _ (.inl rfl) e,c⟩
 | dK kvs=>obtain⟨z,y,vs,r,ob,es,ep,e,c⟩:=x; exact⟨z,y,vs,r,ob,es,ep,k _ _ (.inl rfl) e,c⟩
 | dT kvs=>
  obtain⟨z,y,xs,r,ob,es,ep,e,c⟩:=x;exact⟨z,y,xs,Paired.mapP r fun p q z=>⟨z.1,ht _ _ z.2.1,z.2.2⟩,ob,es,ep,k _ _ (.inl rfl) e,c⟩
 | set S n=>obtain⟨ob,es,ep,t,e,c⟩:=x; exact⟨ob,es,ep,t,k _ _ (.inl rfl) e,c⟩
 | ins C dx fs=>
  obtain⟨d,z,ne,e,mA,⟨od,es,ep,e2,c⟩,r⟩:=x;exact⟨ho _ d,z,ne,k _ _ (.inl rfl) e,mA,⟨od,es,ep,k _ _ (.inr d) e2,c⟩,r⟩
 | own y=>obtain⟨ob,e⟩:=x; exact⟨ob,k _ _ (.inl rfl) e⟩
 | xd fs=>obtain⟨mA,⟨od,es,ep,e,c⟩,r⟩:=x; exact⟨mA,⟨od,es,ep,k _ _ (.inl rfl) e,c⟩,r⟩
 | rng lo hi=>obtain⟨t,u,v,e⟩:=x; exact⟨t,u,v,k _ _ (.inl rfl) e⟩
 | frz ob u ih=>obtain⟨e,q⟩:=x; exact⟨k _ _ (.inl rfl) e,ih q⟩
 | tbl ps=>
  have e:h.get? a=some { cls:=.none,data:=.fields ps }:=x;show h'.get? a=some { cls:=.none,data:=.fields ps };exact k a _ (.inl rfl) e
 | met f y=>
  have e:h.get? a=some (PySem.W.methodObj (.ref f) (.ref y)):=x;show h'.get? a=some (PySem.W.methodObj (.ref f) (.ref y));exact k a _ (.inl rfl) e
 | ext φ=>obtain⟨p,⟨o,e⟩,st⟩:=x; exact⟨st _ _ p fun o q=>k _ _ (.inl rfl) q,⟨o,k _ _ (.inl rfl) e⟩,st⟩
theorem HOk.lt (x:HOk P w H h) (e:H a=some o):a<h.objs.size:=(x a o e).lt
theorem HOk.fresh (x:HOk P w H h) (e:h.objs.size<=a):H a=none:=by
 cases q:H a with
 | none=>rfl
 | some u=>exact absurd (zAK (x.lt q) e) (zBm _)
theorem HOk.kept (x:HOk P w H h) (k:∀ b u,h.get? b=some u->h'.get? b=some u):HOk P w H h':=fun a o e=>
 (x a o e).stay (fun b u _ q=>k b u q) (fun _ q=>q) fun _ _ q=>q
theorem HOk.laid (x:HOk P w H h) (k:∀ b u,h.get? b=some u->h'.get? b=some u) (hp:h.objs.size<=a) (new:ObjOk P w (upd H a o) h' a o):HOk P w (upd H a o) h':=fun b u e=>by
 have hn:=x.fresh hp;by_cases hb:b=a
 ·subst hb; rw[Ab] at e; cases e; exact new
 ·rw[Ar hb] at e
  exact (x b u e).stay (fun c v _ q=>k c v q) (fun c q=>by rw[Ar (Ap q hn)]; exact q) fun c xs q=>by rw[Ar (Ap q hn)]; exact q
end
def Rd (H:Hp) (a:Addr) (u:HO):Prop:=H a=some u\/∃ o,H a=some (.frz o u)
theorem Rd.ok {P:Program} {w:World} {H:Hp} {h:Heap} {a:Addr} {u:HO} (r:Rd H a u) (x:HOk P w H h):ObjOk P w H h a u:=by
 rcases r with r | ⟨o,r⟩
 ·exact x a u r
 ·obtain⟨_,q⟩:=x a _ r
  exact q
def MI:Option HO->Prop
 | some (.lst _)=>True
 | some (.dK _)=>True
 | some (.dT _)=>True
 | some (.set _ _)=>True
 | some (.ins _ _ _)=>True
 | some (.ext _)=>True
 | _=>False
section
variable {P:Program} {w:World} {H:Hp} {h h':Heap} {x e:Addr} {o':HO}
theorem HOk.write (ok:HOk P w H h) (mu:MI (H x)) (he:e=x\/H e=some (.own x)) (k:∀ b u,b≠e->h.get? b=some u->h'.get? b=some u) (heo:∃ u,h'.get? e=some u)
  (new:ObjOk P w (upd H x o') h' x o'):HOk P w (upd H x o') h':=fun b u q=>by
 have nown:∀ c y,H c=some (.own y)->c≠x:=fun c y r z=>by subst z; rw[r] at mu; exact mu
 have ntup:∀ c xs,H c=some (.tup xs)->c≠x:=fun c xs r z=>by subst z; rw[r] at mu; exact mu
 by_cases hb:b=x
 ·subst hb; rw[Ab] at q; cases q; exact new
 ·rw[Ar hb] at q
  by_cases hbe:b=e
  ·have q':H b=some (.own x):=by
    rcases he with z | z
    ·exact absurd (hbe.trans z) hb
    ·rw[hbe]; exact z
   rw[q] at q'; cases q';obtain⟨v,hv⟩:=heo;exact⟨v,by rw[hbe]; exact hv⟩
  ·refine (ok b u q).stay (fun c v hc r=>k c v ?_ r) (fun c r=>by rw[Ar (nown c b r)]; exact r) fun c xs r=>by rw[Ar (ntup c xs r)]; exact r
   rcases hc with rfl | hc
   ·exact hbe
   ·rintro rfl
    rcases he with z | z
    ·exact nown c b hc z
    ·rw[hc] at z; cases z; exact hb rfl
end
structure Un (fs ex:List Addr) (H H':Hp) (h h':Heap):Prop where
 keep:∀ b o,h.get? b=some o->H b=none->b∉fs->b∉ex->h'.get? b=some o
 slot:∀ b o,h.get? b=some o->H b=none->b∈fs->b∉ex->∃ sl,h'.get? b=some { o with slots:=sl }
 free:∀ b o,h.get? b=some o->H b=none->b∉ex->H' b=none
 there:∀ b o,h.get? b=some o->b∉ex->∃ o',h'.get? b=some o'
 tups:∀ b xs,H b=some (.tup xs)->H' b=some (.tup xs)
 frzs:∀ b o u,H b=some (.frz o u)->H' b=some (.frz o u)
 tbls:∀ b ps,H b=some (.tbl ps)->∃ more,H' b=some (.tbl (ps++more))
section
variable {fs fs' ex ex':List Addr} {H H1 H2:Hp} {h h1 h2 h':Heap} {a x e:Addr} {o:HO}
theorem Un.any (u:Un fs ex H H1 h h1) {b:Addr} {ob:Obj} (q:h.get? b=some ob) (n:H b=none) (hx:b∉ex):∃ sl,h1.get? b=some { ob with slots:=sl }:=by
 by_cases hb:b∈fs
 ·exact u.slot b ob q n hb hx
 ·exact⟨ob.slots,u.keep b ob q n hb hx⟩
theorem Un.kept (k:∀ b u,h.get? b=some u->h'.get? b=some u):Un fs ex H H h h':=
 ⟨fun b ob q _ _ _=>k b ob q,fun b ob q _ _ _=>⟨ob.slots,k b ob q⟩,fun _ _ _ n _=>n,fun b ob q _=>⟨ob,k b ob q⟩,fun _ _ q=>q,fun _ _ _ q=>q,fun _ ps q=>⟨#[],by rw[q]; simp⟩⟩
theorem Un.refl:Un fs ex H H h h:=Un.kept fun _ _ q=>q
theorem Un.laid (k:∀ b u,h.get? b=some u->h'.get? b=some u) (hp:h.objs.size<=a) (hn:H a=none):Un fs ex H (upd H a o) h h' where
 keep:=fun b u q _ _ _=>k b u q
 slot:=fun b u q _ _ _=>⟨u.slots,k b u q⟩
 free:=fun b u q n _=>by rw[Ar (zAw (zAK (zAp q) hp))]; exact n
 there:=fun b u q _=>⟨u,k b u q⟩
 tups:=fun b xs q=>by rw[Ar (Ap q hn)]; exact q
 frzs:=fun b u xs q=>by rw[Ar (Ap q hn)]; exact q
 tbls:=fun b ps q=>⟨#[],by rw[Ar (Ap q hn),q]; simp⟩
theorem Un.write (mu:MI (H x)) (he:e=x\/H e=some (.own x)) (k:∀ b u,b≠e->h.get? b=some u->h'.get? b=some u) (heo:∃ u,h'.get? e=some u):Un fs ex H (upd H x o) h h':=by
 have hx:∀ b,H b=none->b≠x:=fun b n z=>by subst z; rw[n] at mu; exact mu
 have hb:∀ b,H b=none->b≠e:=fun b n z=>by
  subst z;rcases he with r | r
  ·exact hx b n r
  ·rw[n] at r; cases r
 have hm:∀ b u,H b=some u->¬ MI (some u)->b≠x:=fun b u q nm z=>by subst z; rw[q] at mu; exact nm mu
 refine⟨fun b u q n _ _=>k b u (hb b n) q,fun b u q n _ _=>⟨u.slots,k b u (hb b n) q⟩,fun b u q n _=>by rw[Ar (hx b n)]; exact n,fun b u q _=>?_,
  fun b xs q=>by rw[Ar (hm b _ q fun z=>z)]; exact q,fun b u xs q=>by rw[Ar (hm b _ q fun z=>z)]; exact q,fun b ps q=>⟨#[],by rw[Ar (hm b _ q fun z=>z),q]; simp⟩⟩
 by_cases hbe:b=e
 ·subst hbe; exact heo
 ·exact⟨u,k b u hbe q⟩
end
def MW (h:Heap) (H:Hp):List Addr:=(zAM h.objs.size).filter fun a=>(H a).isSome
def Ym (h:Heap) (H:Hp):Heap:=PySem.W.hideAll h (MW h H)
theorem Y2 (h:Heap) (H:Hp):(Ym h H).objs.size=h.objs.size:=PySem.W.hideAll_size _ _
theorem EJ {h:Heap} {H:Hp} {b:Addr} {o:Obj} (e:h.get? b=some o) (n:H b=none):(Ym h H).get? b=some o:=
 PySem.W.hideAll_get _ e fun hm=>by
  have q:(H b).isSome=true:=(zAL.mp hm).2;rw[n] at q; simp at q
theorem HD {h:Heap} {H:Hp} {b:Addr} {o:Obj} (e:(Ym h H).get? b=some o):h.get? b=some o/\H b=none:=by
 have e':h.get? b=some o:=PySem.W.of_hideAll (MW h H) e;refine⟨e',?_⟩;cases q:H b with
 | none=>rfl
 | some x=>
  have hm:b∈MW h H:=zAL.mpr ⟨zBt.mpr (zAp e'),by simp [q]⟩;have z:(Ym h H).get? b=none:=PySem.W.hideAll_none (MW h H) hm;rw[z] at e; cases e
structure Mod (K:zAa) (mg:Str->Option Value) (base:Heap):Prop where
 kin:K.In base
 glob:base.Ns zCH mg
 blt:∃ mb,base.Ns builtinsNs mb/\∀ x:Str,x ≠ "__name__" -> mb x=zCF x
 nolimit:base.NoLimit
/-- the context: a def's body (or a comprehension's block) running. base: fixed through the whole law; s₀,H₀: the entry; outer: the frames whose slots others may change (a def's callers); stack: all frames that run;
   ex: iterators that were made ahead of the entry and are walked here (a comprehension's); fn: the names whose cells were made at the entry (a def: all; a comprehension's block: its own); calm: not within an except suite; pn: pins that every state bears; xe: what is wanted of an exception that leaves the code -/
structure Cx where
 prog:Program
 w:World
 K:zAa
 mg:Str->Option Value
 base:Heap
 A:Around
 N:List Str
 s₀ : Shared
 H₀ : Hp
 env:Env
 outer:List Env
 stack:List Env
 ex:List Addr
 fn:Str->Bool
 calm:Bool
 pn:List (Addr×Obj)
 xe:Value->Shared->Prop
def AK (l:List Env):List Addr:=l.filterMap (·.frame)
abbrev Cx.fs (X:Cx):List Addr:=AK X.outer
def NM (sc:Scope) (x:Str):Prop:=sc.names.lookup x=some .local\/sc.names.lookup x=some .cell\/sc.names.lookup x=some .free
def MZ (sc:Scope) (x:Str):Prop:=sc.names.lookup x=some .local\/sc.names.lookup x=some .cell
def OB (env:Env) (h:Heap) (m:Str->Option Value) (x:Str) (u:Value):Prop:=
 (env.kindOf x=some .local/\m x=some u)\/((env.kindOf x=some .cell\/env.kindOf x=some .free)/\∃ c,env.cells.lookup x=some c/\h.IsCell c (some u))
structure Cx.Ok (X:Cx):Prop where
 mod:Mod X.K X.mg X.base
 kind:X.env.scope.kind = .function
 glob:X.env.globals=zCH
 blt:X.env.builtins=builtinsNs
 above:X.s₀.heap.objs.size<=X.env.locals
 inj:∀ x y c,X.env.cells.lookup x=some c->X.env.cells.lookup y=some c->x=y
 has:∀ x,(X.env.kindOf x=some .cell\/X.env.kindOf x=some .free)->∃ c,X.env.cells.lookup x=some c
 cab:∀ x c,X.fn x=true->X.env.cells.lookup x=some c->X.s₀.heap.objs.size<=c
 hd:X.calm=true->X.A.handled=none
 frames:X.A.frames=some X.stack
 stk:X.stack=X.outer\/(X.stack=X.env::X.outer/\X.env.frame=some X.env.locals)
 exf:∀ b∈X.ex,b≠X.env.locals/\∀ x c,X.env.cells.lookup x=some c->c≠b
 bs:∀ b o,X.base.get? b=some o->X.s₀.heap.get? b=some o/\X.H₀ b=none
 bsz:X.base.objs.size<=X.s₀.heap.objs.size
 noex:∀ b o,X.base.get? b=some o->b∉X.ex
 exfs:∀ b∈X.ex,b∉X.fs
 funs:X.s₀.heap.FunFrames X.base X.outer
 frf:∀ b∈X.fs,X.H₀ b=none
structure Inv (X:Cx) (pins:List (Addr×Obj)) (σ:List (Option V)) (H:Hp) (s:Shared):Prop where
 ok:X.Ok
 os:s.os=X.s₀.os
 bare:AllBare s.gens
 base:Un X.fs X.ex X.H₀ H X.s₀.heap s.heap
 loc:∃ m,s.heap.Ns X.env.locals m/\∀ (i:Nat) (x:Str) (v:V),X.N[i]?=some x->σ[i]?=some (some v)->NM X.env.scope x->∃ u,RelV v u/\OB X.env s.heap m x u
 cell:∀ x c,X.env.cells.lookup x=some c->∃ v,s.heap.IsCell c v
 free:H X.env.locals=none
 freeC:∀ x c,X.env.cells.lookup x=some c->H c=none
 pin:∀ p∈X.pn++pins,s.heap.get? p.1=some p.2/\H p.1=none/\p.1≠X.env.locals/\p.1∉X.fs/\∀ v,p.2.data ≠ .cell v
 hok:HOk X.prog X.w H s.heap
 len:σ.length=X.N.length
section
variable {X:Cx} {pins:List (Addr×Obj)} {σ:List (Option V)} {H H':Hp} {s:Shared} {h':Heap}
theorem Cx.Ok.nofr (ok:X.Ok) {b:Addr} {o:Obj} (e:X.base.get? b=some o):b∉X.fs:=fun hb=>by
 have:=(ok.funs.mem hb).1;rw[e] at this; cases this
theorem Inv.bs (I:Inv X pins σ H s):∀ b o,X.base.get? b=some o->s.heap.get? b=some o/\H b=none:=fun b o e=>
 ⟨I.base.keep b o (I.ok.bs b o e).1 (I.ok.bs b o e).2 (I.ok.nofr e) (I.ok.noex b o e),I.base.free b o (I.ok.bs b o e).1 (I.ok.bs b o e).2 (I.ok.noex b o e)⟩
theorem Inv.bk (I:Inv X pins σ H s):∀ b o,X.base.get? b=some o->s.heap.get? b=some o:=fun b o e=>(I.bs b o e).1
theorem Inv.mod (I:Inv X pins σ H s):Mod X.K X.mg X.base:=I.ok.mod
theorem Inv.kIn (I:Inv X pins σ H s):X.K.In s.heap:=I.ok.mod.kin.keeps I.bk
theorem Inv.lt (I:Inv X pins σ H s):X.env.locals<s.heap.objs.size:=let ⟨_,hn,_⟩:=I.loc; hn.lt
theorem Inv.sz (I:Inv X pins σ H s):X.s₀.heap.objs.size<=s.heap.objs.size:=zAG I.ok.above (Nat.le_of_lt I.lt)
theorem Inv.nofs (I:Inv X pins σ H s) {a:Addr} (h:s.heap.objs.size<=a):a∉X.fs:=fun hb=>by
 obtain⟨_,o,ho,_⟩:=I.ok.funs.mem hb;exact absurd (zAK (zAp ho) (zAG I.sz h)) (zBm _)
theorem Inv.cne (I:Inv X pins σ H s):∀ x c,X.env.cells.lookup x=some c->c≠X.env.locals:=fun x c e z=>by
 obtain⟨v,o,ho,hd⟩:=I.cell x c e;obtain⟨m,⟨o',es,ep,ho',hd',_⟩,_⟩:=I.loc;rw[z,ho'] at ho; cases ho; rw[hd'] at hd; cases hd
theorem Inv.funs (I:Inv X pins σ H s):s.heap.FunFrames X.base X.outer:=by
 have all:∀ (l:List Env),(∀ b∈AK l,b∈X.fs)->X.s₀.heap.FunFrames X.base l->s.heap.FunFrames X.base l:=by
  intro l
  induction l with
  | nil=>intro _ _; trivial
  | cons env r ih=>
   intro hs hl;obtain⟨hk,⟨L,o,hf,hn,ho,hd⟩,hr⟩:=hl;have hL:L∈X.fs:=hs L (by unfold AK; rw[zCk,hf]; exact zAj);obtain⟨sl,e⟩:=I.base.slot L o ho (I.ok.frf L hL) hL fun z=>I.ok.exfs L z hL;exact⟨hk,⟨L,_,hf,hn,e,hd⟩,ih (fun b hb=>hs b (by unfold AK; rw[zCk,hf]; exact zAf _ hb)) hr⟩
 exact all X.outer (fun _ hb=>hb) I.ok.funs
theorem Inv.stack (I:Inv X pins σ H s):s.heap.FunFrames X.base X.stack:=by
 rcases I.ok.stk with e | ⟨e,hf⟩
 ·rw[e]; exact I.funs
 ·rw[e]
  obtain⟨m,hn,_⟩:=I.loc;refine .cons (by rw[I.ok.kind]; decide) hf hn ?_ I.funs;exact Heap.get?_none_of_le (zAG I.ok.bsz I.ok.above)
theorem Inv.stkSub (I:Inv X pins σ H s):∀ b∈AK X.stack,b∈X.env.locals::X.fs:=fun b hb=>by
 rcases I.ok.stk with e | ⟨e,hf⟩
 ·rw[e] at hb; exact zAf _ hb
 ·rw[e] at hb
  unfold AK at hb;rw[zCk,hf] at hb;exact hb
theorem Inv.stkFree (I:Inv X pins σ H s):∀ b∈AK X.stack,H b=none:=fun b hb=>by
 rcases zAn.mp (I.stkSub b hb) with e | hb
 ·rw[e]; exact I.free
 ·obtain⟨_,o,ho,_⟩:=I.ok.funs.mem hb
  exact I.base.free b o ho (I.ok.frf b hb) fun z=>I.ok.exfs b z hb
theorem Inv.step {g':Array GenState} {t':Nat} {d':Drawn} {ch:List Addr} (I:Inv X pins σ H s)
  (hch:∀ b∈ch,(b∈X.ex\/X.s₀.heap.objs.size<=b)/\b≠X.env.locals/\(∀ x c,X.env.cells.lookup x=some c->c≠b)/\∀ p∈X.pn++pins,p.1≠b)
  (keep:∀ b o,b≠X.env.locals->b∉X.fs->b∉ch->s.heap.get? b=some o->H b=none->h'.get? b=some o)
  (slot:∀ b o,b≠X.env.locals->b∈X.fs->b∉ch->s.heap.get? b=some o->H b=none->∃ sl,h'.get? b=some { o with slots:=sl }) (free:∀ b o,b∉ch->s.heap.get? b=some o->H b=none->H' b=none)
  (there:∀ b o,b∉ch->s.heap.get? b=some o->∃ o',h'.get? b=some o')
  (tups:∀ b xs,H b=some (.tup xs)->H' b=some (.tup xs)) (frzs:∀ b o u,H b=some (.frz o u)->H' b=some (.frz o u)) (tbls:∀ b ps,H b=some (.tbl ps)->∃ more,H' b=some (.tbl (ps++more)))
  (ns:∀ m,s.heap.Ns X.env.locals m->h'.Ns X.env.locals m) (hok:HOk X.prog X.w H' h') (hg:AllBare g') :
  Inv X pins σ H' { s with heap:=h',gens:=g',drawn:=d',toks:=t' }:=by
 have neL:∀ b o,X.s₀.heap.get? b=some o->b≠X.env.locals:=fun b o e=>zAw (zAK (zAp e) I.ok.above);have neC:∀ b o,X.s₀.heap.get? b=some o->b∉X.ex->b∉ch:=fun b o e hx hb=>by
  rcases (hch b hb).1 with z | z
  ·exact hx z
  ·exact absurd (zAK (zAp e) z) (zBm _)
 have cellK:∀ x c,X.env.cells.lookup x=some c->∀ v,s.heap.IsCell c v->h'.IsCell c v:=fun x c e v ⟨o,ho,hd⟩=>by
  have nch:c∉ch:=fun z=>(hch c z).2.2.1 x c e rfl;by_cases hc:c∈X.fs
  ·obtain⟨sl,q⟩:=slot c o (I.cne x c e) hc nch ho (I.freeC x c e)
   exact⟨_,q,hd⟩
  ·exact⟨o,keep c o (I.cne x c e) hc nch ho (I.freeC x c e),hd⟩
 refine⟨I.ok,I.os,hg,⟨fun b o e n hb hx=>?_,fun b o e n hb hx=>?_,fun b o e n hx=>?_,fun b o e hx=>?_,fun b xs e=>tups b xs (I.base.tups b xs e),fun b o xs e=>frzs b o xs (I.base.frzs b o xs e),fun b ps e=>?_⟩,?_,fun x c e=>?_,?_,fun x c e=>?_,fun p hp=>?_,hok,I.len⟩
 ·exact keep b o (neL b o e) hb (neC b o e hx) (I.base.keep b o e n hb hx) (I.base.free b o e n hx)
 ·obtain⟨sl,e1⟩:=I.base.slot b o e n hb hx
  obtain⟨sl',e2⟩:=slot b _ (neL b o e) hb (neC b o e hx) e1 (I.base.free b o e n hx);exact⟨sl',e2⟩
 ·obtain⟨o',e1⟩:=I.base.there b o e hx
  exact free b o' (neC b o e hx) e1 (I.base.free b o e n hx)
 ·obtain⟨o',e1⟩:=I.base.there b o e hx
  exact there b o' (neC b o e hx) e1
 ·obtain⟨m1,e1⟩:=I.base.tbls b ps e
  obtain⟨m2,e2⟩:=tbls b _ e1;exact⟨m1++m2,by rw[e2,Array.append_assoc]⟩
 ·obtain⟨m,hn,hl⟩:=I.loc
  refine⟨m,ns m hn,fun i x v e1 e2 e3=>?_⟩;obtain⟨u,r,l⟩:=hl i x v e1 e2 e3;refine⟨u,r,?_⟩;rcases l with l | ⟨k,c,e,z⟩
  ·exact .inl l
  ·exact .inr ⟨k,c,e,cellK x c e _ z⟩
 ·obtain⟨v,z⟩:=I.cell x c e
  exact⟨v,cellK x c e v z⟩
 ·obtain⟨m,⟨o,_,_,ho,_⟩,_⟩:=I.loc
  exact free _ o (fun z=>(hch _ z).2.1 rfl) ho I.free
 ·obtain⟨v,o,ho,hd⟩:=I.cell x c e
  exact free c o (fun z=>(hch c z).2.2.1 x c e rfl) ho (I.freeC x c e)
 ·obtain⟨e,n,ne,nf,d⟩:=I.pin p hp
  have nch:p.1∉ch:=fun z=>(hch p.1 z).2.2.2 p hp rfl;exact⟨keep p.1 p.2 ne nf nch e n,free p.1 p.2 nch e n,ne,nf,d⟩
theorem Inv.un {t':Nat} (I:Inv X pins σ H s) (u:Un X.fs [] H H' s.heap h') (hok:HOk X.prog X.w H' h'):Inv X pins σ H' { s with heap:=h',toks:=t' }:=by
 obtain⟨m,⟨o,es,ep,ho,r⟩,_⟩:=id I.loc;obtain⟨sl,hL⟩:=u.any ho I.free (by simp);exact I.step (g':=s.gens) (d':=s.drawn) (ch:=[]) (fun _ z=>nomatch z) (fun b o _ hb _ e n=>u.keep b o e n hb (by simp)) (fun b o _ hb _ e n=>u.slot b o e n hb (by simp)) (fun b o _ e n=>u.free b o e n (by simp)) (fun b o _ e=>u.there b o e (by simp)) u.tups u.frzs u.tbls (fun m' hm=>by
  obtain⟨o',es',ep',ho',r'⟩:=hm;rw[ho] at ho'; cases ho';exact⟨_,es',ep',hL,r'⟩) hok I.bare
theorem Inv.call {g':Array GenState} {t':Nat} {d':Drawn} {ch:List Addr} (I:Inv X pins σ H s) (u:Un (AK X.stack) ch H H' s.heap h') (hok:HOk X.prog X.w H' h') (hg:AllBare g')
  (hch:∀ b∈ch,(b∈X.ex\/X.s₀.heap.objs.size<=b)/\b≠X.env.locals/\(∀ x c,X.env.cells.lookup x=some c->c≠b)/\∀ p∈X.pn++pins,p.1≠b) :
  Inv X pins σ H' { s with heap:=h',gens:=g',drawn:=d',toks:=t' }:=by
 obtain⟨m,⟨o,es,ep,ho,r⟩,_⟩:=id I.loc;obtain⟨sl,hL⟩:=u.any ho I.free fun z=>(hch _ z).2.1 rfl;exact I.step (ch:=ch) hch (fun b o hL hb hc e n=>u.keep b o e n (fun z=>(zAn.mp (I.stkSub b z)).elim hL hb) hc) (fun b o _ _ hc e n=>u.any e n hc) (fun b o hc e n=>u.free b o e n hc) (fun b o hc e=>u.there b o e hc) u.tups u.frzs u.tbls (fun m' hm=>by
  obtain⟨o',es',ep',ho',r'⟩:=hm;rw[ho] at ho'; cases ho';exact⟨_,es',ep',hL,r'⟩) hok hg
theorem Inv.turned {t':Nat} {it:Addr} (I:Inv X pins σ H s) (k:∀ b o,b≠it->s.heap.get? b=some o->h'.get? b=some o) (hn:H it=none) (hL:it≠X.env.locals)
  (h1:it∈X.ex\/X.s₀.heap.objs.size<=it) (h2:∀ x c,X.env.cells.lookup x=some c->c≠it) (h3:∀ p∈X.pn++pins,p.1≠it):Inv X pins σ H { s with heap:=h',toks:=t' }:=by
 have nit:∀ b u,H b=some u->b≠it:=fun b u e z=>by rw[z,hn] at e; cases e
 refine I.step (g':=s.gens) (d':=s.drawn) (ch:=[it]) (fun b hb=>?_) (fun b o _ _ hc e _=>k b o (fun z=>hc (by simp [z])) e) (fun b o _ _ hc e _=>⟨o.slots,k b o (fun z=>hc (by simp [z])) e⟩) (fun _ _ _ _ n=>n)
  (fun b o hc e=>⟨o,k b o (fun z=>hc (by simp [z])) e⟩) (fun _ _ e=>e) (fun _ _ _ e=>e) (fun b ps e=>⟨#[],by rw[e]; simp⟩) (fun m hm=>?_) (fun b u e=>?_) I.bare
 ·have e:b=it:=by simpa using hb
  subst e;exact⟨h1,hL,h2,h3⟩
 ·obtain⟨o,es,ep,ho,r⟩:=hm
  exact⟨o,es,ep,k _ o (Ne.symm hL) ho,r⟩
 ·refine (I.hok b u e).stay (fun c v hc q=>k c v ?_ q) (fun _ q=>q) fun _ _ q=>q
  rcases hc with z | z
  ·rw[z]; exact nit b u e
  ·exact nit c _ z
theorem Inv.tok (I:Inv X pins σ H s) (t:Nat):Inv X pins σ H { s with toks:=t }:=I.un (h':=s.heap) (t':=t) Un.refl I.hok
theorem Inv.kept {t':Nat} (I:Inv X pins σ H s) (k:∀ b u,s.heap.get? b=some u->h'.get? b=some u):Inv X pins σ H { s with heap:=h',toks:=t' }:=I.un (Un.kept k) (I.hok.kept k)
theorem Inv.laid {a:Addr} {o:HO} {t':Nat} (I:Inv X pins σ H s) (k:∀ b u,s.heap.get? b=some u->h'.get? b=some u) (hp:s.heap.objs.size<=a) (new:ObjOk X.prog X.w (upd H a o) h' a o) :
  Inv X pins σ (upd H a o) { s with heap:=h',toks:=t' }:=I.un (Un.laid k hp (I.hok.fresh hp)) (I.hok.laid k hp new)
theorem Inv.write {x e:Addr} {o:HO} {t':Nat} (I:Inv X pins σ H s) (mu:MI (H x)) (he:e=x\/H e=some (.own x)) (k:∀ b u,b≠e->s.heap.get? b=some u->h'.get? b=some u) (heo:∃ u,h'.get? e=some u)
  (new:ObjOk X.prog X.w (upd H x o) h' x o):Inv X pins σ (upd H x o) { s with heap:=h',toks:=t' }:=I.un (Un.write mu he k heo) (I.hok.write mu he k heo new)
theorem Inv.pins_of {pins':List (Addr×Obj)} (I:Inv X pins σ H s) (h:∀ p∈pins',s.heap.get? p.1=some p.2/\H p.1=none/\p.1≠X.env.locals/\p.1∉X.fs/\∀ v,p.2.data ≠ .cell v):Inv X pins' σ H s:=
 ⟨I.ok,I.os,I.bare,I.base,I.loc,I.cell,I.free,I.freeC,fun p hp=>(zAy.mp hp).elim (fun z=>I.pin p (zCb _ z)) (h p),I.hok,I.len⟩
theorem Zx {N:List Str} (hN:N.Nodup) {i j:Nat} {x:Str} (a:N[i]?=some x) (b:N[j]?=some x):i=j:=by
 obtain⟨h1,e1⟩:=zAi.mp a;obtain⟨h2,e2⟩:=zAi.mp b;exact (List.getElem_inj hN).mp (e1.trans e2.symm)
theorem Uy {M:Model} {A:Around} {E:Value->Shared->Prop} {i:Nat} {x:Str} {v:V} {u:Value} {Q:Unit->Shared->Prop} (I:Inv X pins σ H s) (hN:X.N.Nodup) (hi:X.N[i]?=some x) (hx:MZ X.env.scope x) (r:RelV v u)
  (h:∀ s',Inv X pins (σ.set i (some v)) H s'->(∃ a,zAU a s.heap s'.heap/\(a=X.env.locals\/X.env.cells.lookup x=some a))->Q () s') (hf:X.fn x=true\/X.env.scope.names.lookup x=some .local:=by first | exact .inl rfl | exact .inr rfl | assumption):wpAny M A (storeName X.env x u) Q E s:=by
 obtain⟨m,hn,hl⟩:=id I.loc;have hcls:(X.env.scope.kind == .class||(X.env.scope.kind == .module&&X.env.locals != X.env.globals))=false:=by rw[I.ok.kind]; rfl
 have hiσ:i<σ.length:=by rw[I.len]; exact (zAi.mp hi).1
 have cne:=I.cne;have tracked:∀ {a:Addr} {h':Heap},(∃ o,s.heap.get? a=some o/\H a=none)->zAU a s.heap h'->HOk X.prog X.w H h':=fun {a h'} ha hs b ob e=>by
  obtain⟨_,_,hfree⟩:=ha;refine (I.hok b ob e).stay (fun c w' hc q=>(hs.2 c ?_).trans q) (fun _ q=>q) fun _ _ q=>q;rintro rfl;rcases hc with rfl | hc
  ·rw[hfree] at e; cases e
  ·rw[hfree] at hc; cases hc
 rcases hx with hk | hk
 ·refine wpAny_storeName_local hk hn (fun h' hn' hs=>?_) hcls
  obtain⟨oL,_,_,hoL,_⟩:=id hn;refine h _ ⟨I.ok,I.os,I.bare,⟨fun b o e n hb hx=>?_,fun b o e n hb hx=>?_,I.base.free,fun b o e hx=>?_,I.base.tups,I.base.frzs,I.base.tbls⟩,⟨_,hn',fun j y v' e1 e2 e3=>?_⟩,fun y c e=>?_,I.free,I.freeC,fun p hp=>?_,tracked ⟨oL,hoL,I.free⟩ hs,by simpa using I.len⟩ ⟨_,hs,.inl rfl⟩
  ·exact (hs.2 b (zAw (zAK (zAp e) I.ok.above))).trans (I.base.keep b o e n hb hx)
  ·obtain⟨sl,e1⟩:=I.base.slot b o e n hb hx
   exact⟨sl,(hs.2 b (zAw (zAK (zAp e) I.ok.above))).trans e1⟩
  ·obtain⟨o',e1⟩:=I.base.there b o e hx
   exact⟨o',(hs.2 b (zAw (zAK (zAp e) I.ok.above))).trans e1⟩
  ·by_cases hj:j=i
   ·subst hj
    rw[hi] at e1; cases e1;rw[List.getElem?_set_self hiσ] at e2;cases e2;exact⟨u,r,.inl ⟨hk,by simp⟩⟩
   ·rw[List.getElem?_set_ne (Ne.symm hj)] at e2
    obtain⟨u',r',q⟩:=hl j y v' e1 e2 e3;refine⟨u',r',?_⟩;rcases q with ⟨k,e⟩ | ⟨k,c,e,z⟩
    ·refine .inl ⟨k,?_⟩
     have:y≠x:=fun e=>hj (Zx hN e1 (e▸hi));simp [this,e]
    ·exact .inr ⟨k,c,e,z.sameBut hs (cne y c e)⟩
  ·obtain⟨w',z⟩:=I.cell y c e
   exact⟨w',z.sameBut hs (cne y c e)⟩
  ·obtain⟨e,n,ne,nf,d⟩:=I.pin p hp
   exact⟨(hs.2 p.1 ne).trans e,n,ne,nf,d⟩
 ·have hfn:X.fn x=true:=by
   rcases hf with z | z
   ·exact z
   ·rw[z] at hk; cases hk
  obtain⟨c,hc⟩:=I.ok.has x (.inl hk);obtain⟨w',z⟩:=I.cell x c hc;refine wpAny_storeName_cell I.ok.kind hk hc z (fun h' hc' hs=>?_);obtain⟨oc,hoc,hocd⟩:=id z;refine h { s with heap:=h' } ⟨I.ok,I.os,I.bare,⟨fun b o e n hb hx=>?_,fun b o e n hb hx=>?_,I.base.free,fun b o e hx=>?_,I.base.tups,I.base.frzs,I.base.tbls⟩,⟨m,hn.sameBut hs (Ne.symm (cne x c hc)),fun j y v' e1 e2 e3=>?_⟩,fun y c' e=>?_,I.free,I.freeC,fun p hp=>?_,tracked ⟨oc,hoc,I.freeC x c hc⟩ hs,by simpa using I.len⟩ ⟨c,hs,.inr hc⟩
  ·exact (hs.2 b (zAw (zAK (zAp e) (I.ok.cab x c hfn hc)))).trans (I.base.keep b o e n hb hx)
  ·obtain⟨sl,e1⟩:=I.base.slot b o e n hb hx
   exact⟨sl,(hs.2 b (zAw (zAK (zAp e) (I.ok.cab x c hfn hc)))).trans e1⟩
  ·obtain⟨o',e1⟩:=I.base.there b o e hx
   exact⟨o',(hs.2 b (zAw (zAK (zAp e) (I.ok.cab x c hfn hc)))).trans e1⟩
  ·by_cases hj:j=i
   ·subst hj
    rw[hi] at e1; cases e1;rw[List.getElem?_set_self hiσ] at e2;cases e2;exact⟨u,r,.inr ⟨.inl hk,c,hc,hc'⟩⟩
   ·rw[List.getElem?_set_ne (Ne.symm hj)] at e2
    obtain⟨u',r',q⟩:=hl j y v' e1 e2 e3;refine⟨u',r',?_⟩;rcases q with q | ⟨k,c',e,z'⟩
    ·exact .inl q
    ·refine .inr ⟨k,c',e,z'.sameBut hs ?_⟩
     rintro rfl;exact hj (Zx hN e1 (I.ok.inj _ _ _ e hc▸hi))
  ·by_cases hcc:c'=c
   ·subst hcc; exact⟨_,hc'⟩
   ·obtain⟨w2,z2⟩:=I.cell y c' e
    exact⟨w2,z2.sameBut hs hcc⟩
  ·obtain⟨e,n,ne,nf,d⟩:=I.pin p hp
   refine⟨(hs.2 p.1 ?_).trans e,n,ne,nf,d⟩;intro q;rw[q,hoc] at e;have q':oc=p.2:=Option.some.inj e;exact d w' (by rw[<- q']; exact hocd)
theorem D7 {M:Model} {A:Around} {E:Value->Shared->Prop} {i:Nat} {x:Str} {v:V} {u:Value} {Q:Unit->Shared->Prop} (I:Inv X pins σ H s) (hN:X.N.Nodup) (hi:X.N[i]?=some x) (hx:MZ X.env.scope x) (r:RelV v u)
  (h:∀ s',Inv X pins (σ.set i (some v)) H s'->Q () s') (hf:X.fn x=true\/X.env.scope.names.lookup x=some .local:=by first | exact .inl rfl | exact .inr rfl | assumption):wpAny M A (storeName X.env x u) Q E s:=
 Uy I hN hi hx r (fun s' I' _=>h s' I') hf
theorem Inv.call' {s':Shared} {ch:List Addr} (I:Inv X pins σ H s) (ho:s'.os=s.os) (u:Un (AK X.stack) ch H H' s.heap s'.heap) (hok:HOk X.prog X.w H' s'.heap) (hg:AllBare s'.gens)
  (hch:∀ b∈ch,(b∈X.ex\/X.s₀.heap.objs.size<=b)/\b≠X.env.locals/\(∀ x c,X.env.cells.lookup x=some c->c≠b)/\∀ p∈X.pn++pins,p.1≠b):Inv X pins σ H' s':=by
 obtain⟨h',g',d',t',o'⟩:=s';have e:o'=s.os:=ho;subst e;exact I.call (g':=g') (t':=t') (d':=d') u hok hg hch
end
abbrev XK:=Value->Option Addr->Hp->Prop
abbrev St:=List (Option V)
abbrev VK:=V->Hp->Prop
abbrev TE:=St->Hp->VK->Prop
abbrev TT:=St->Hp->(Bool->Hp->Prop)->Prop
abbrev TA:=St->Hp->(List V->Hp->Prop)->Prop
structure Om where
 nx:St->Hp->Prop
 rt:VK
 bk:St->Hp->Prop:=fun _ _=>False
 ct:St->Hp->Prop:=fun _ _=>False
abbrev TS:=Om->St->Hp->Prop
def EP (X:Cx) (pins:List (Addr×Obj)) (σ:St) (Q:VK) (u:Value) (s':Shared):Prop:=∃ v H',Inv X pins σ H' s'/\RelV v u/\Q v H'
def TP (X:Cx) (pins:List (Addr×Obj)) (σ:St) (Q:Bool->Hp->Prop) (b:Bool) (s':Shared):Prop:=∃ H',Inv X pins σ H' s'/\Q b H'
def AP (X:Cx) (pins:List (Addr×Obj)) (σ:St) (Q:List V->Hp->Prop) (us:List Value) (s':Shared):Prop:=∃ vs H',Inv X pins σ H' s'/\Vals vs us/\Q vs H'
def SP (X:Cx) (pins:List (Addr×Obj)) (D:Om) (f:Flow) (s':Shared):Prop:=
 match f with
 | .next=>∃ σ' H',Inv X pins σ' H' s'/\D.nx σ' H'
 | .brk=>∃ σ' H',Inv X pins σ' H' s'/\D.bk σ' H'
 | .cont=>∃ σ' H',Inv X pins σ' H' s'/\D.ct σ' H'
 | .ret u=>∃ v σ' H',Inv X pins σ' H' s'/\RelV v u/\D.rt v H'
def PE (X:Cx) (e:Expr) (t:TE):Prop:=
 ∀ (pins:List (Addr×Obj)) (s:Shared) (σ:St) (H:Hp) (Q:VK),Inv X pins σ H s->t σ H Q->wpAny (model X.prog X.w) X.A (eval e X.env) (EP X pins σ Q) X.xe s
def PT (X:Cx) (e:Expr) (t:TT):Prop:=
 ∀ (pins:List (Addr×Obj)) (s:Shared) (σ:St) (H:Hp) (Q:Bool->Hp->Prop),Inv X pins σ H s->t σ H Q->wpAny (model X.prog X.w) X.A (isTrue e X.env (eval e X.env)) (TP X pins σ Q) X.xe s
def PW (X:Cx) (e:Expr) (t:TT):Prop:=
 ∀ (whole:Sem Value) (pins:List (Addr×Obj)) (s:Shared) (σ:St) (H:Hp) (Q:Bool->Hp->Prop),Inv X pins σ H s->t σ H Q->wpAny (model X.prog X.w) X.A (isTrue e X.env whole) (TP X pins σ Q) X.xe s
theorem PW.pt {X:Cx} {e:Expr} {t:TT} (h:PW X e t):PT X e t:=h _
def PA (X:Cx) (es:List Expr) (t:TA):Prop:=
 ∀ (pos:Pos) (pins:List (Addr×Obj)) (s:Shared) (σ:St) (H:Hp) (Q:List V->Hp->Prop),Inv X pins σ H s->t σ H Q->wpAny (model X.prog X.w) X.A (spliced (backTo pos (starEach es X.env))) (AP X pins σ Q) X.xe s
def PS (X:Cx) (st:Stmt) (t:TS):Prop:=
 ∀ (pins:List (Addr×Obj)) (s:Shared) (σ:St) (H:Hp) (D:Om),Inv X pins σ H s->t D σ H->wpAny (model X.prog X.w) X.A (exec st X.env) (SP X pins D) X.xe s
def PSs (X:Cx) (st:List Stmt) (t:TS):Prop:=
 ∀ (pins:List (Addr×Obj)) (s:Shared) (σ:St) (H:Hp) (D:Om),Inv X pins σ H s->t D σ H->wpAny (model X.prog X.w) X.A (execs st X.env) (SP X pins D) X.xe s
theorem Cw {α:Type} {t:Sem α} {Q Q':α->Shared->Prop} {M:Model} {A:Around} {E:Value->Shared->Prop} {s:Shared} (h:wpAny M A t Q E s) (hQ:∀ a s,Q a s->Q' a s):wpAny M A t Q' E s:=wpAny_mono h hQ fun _ _ x=>x
section
variable {X:Cx}
theorem QL {a b:Expr} {ta tb:TE} (ha:PE X a ta) (hb:PE X b tb) {pins:List (Addr×Obj)} {s:Shared} {σ:St} {H:Hp} {R:V->V->Hp->Prop} (I:Inv X pins σ H s) (h:ta σ H fun x H1=>tb σ H1 fun y H2=>R x y H2)
  {α:Type} {Q:α->Shared->Prop} {f:Value->Value->Sem α}
  (hf:∀ v u s2 x y H2,Inv X pins σ H2 s2->RelV x v->RelV y u->R x y H2->wpAny (model X.prog X.w) X.A (f v u) Q X.xe s2) :
  wpAny (model X.prog X.w) X.A (eval a X.env) (fun v s₁ => wpAny (model X.prog X.w) X.A (eval b X.env) (fun u s₂ => wpAny (model X.prog X.w) X.A (f v u) Q X.xe s₂) X.xe s₁) X.xe s:=by
 refine Cw (ha pins s σ H _ I h) fun v s1 ⟨x,H1,I1,r1,q1⟩=>?_;refine Cw (hb pins s1 σ H1 _ I1 q1) fun u s2 ⟨y,H2,I2,r2,q2⟩=>?_;exact hf v u s2 x y H2 I2 r1 r2 q2
def MD (i:Nat):TE:=fun σ H Q=>∃ v,σ[i]?=some (some v)/\Q v H
def tC (v:V):TE:=fun _ H Q=>Q v H
theorem JM {i:Nat} {x:Str} {pos:Pos} (hN:X.N[i]?=some x) (hv:NM X.env.scope x) (hd:(x==("__debug__" : Str))=false:=by decide) (hcd:(x==("__classdict__" : Str))=false:=by decide):PE X (.Name x pos) (MD i):=by
 intro pins s σ H Q I h;obtain⟨v,e,h⟩:=h;obtain⟨m,hn,hl⟩:=I.loc;obtain⟨u,r,l⟩:=hl i x v hN e hv;have fin:EP X pins σ Q u s:=⟨v,H,I,r,h⟩;rcases l with ⟨hk,hm⟩ | ⟨hk,c,hc,hcell⟩
 ·exact wpAny_Name (wpAny_loadName_local I.ok.kind hk hn hm fin) hd
 ·rcases hk with hk | hk
  ·exact wpAny_Name (wpAny_loadName_cell I.ok.kind hk hc hcell fin) hd
  ·exact wpAny_Name (wpAny_loadName_free I.ok.kind hk hc hcell fin hcd) hd
theorem Al {i j pos}:PE X (.Constant (.int i) j pos) (tC (.int i)):=fun _ _ _ H _ I h=>wpAny_Constant_int ⟨.int i,H,I.tok _,⟨_,rfl⟩,h⟩
theorem Eg {b j pos}:PE X (.Constant (.bool b) j pos) (tC (.bl b)):=fun _ _ _ H _ I h=>Constant_bool ⟨.bl b,H,I,rfl,h⟩
theorem Gj {j pos}:PE X (.Constant .none j pos) (tC .non):=fun _ _ _ H _ I h=>Constant_none ⟨.non,H,I,rfl,h⟩
theorem Bz {x j pos}:PE X (.Constant (.str x) j pos) (tC (.str x)):=fun _ _ _ H _ I h=>Calls.Constant_str ⟨.str x,H,I.tok _,⟨_,rfl⟩,h⟩
def Gl (X:Cx) (x:Str):Prop:=X.env.kindOf x=some .globalImplicit
theorem Hb {E:Value->Shared->Prop} {pins:List (Addr×Obj)} {s:Shared} {σ:St} {H:Hp} {x:Str} {u:Value} {pos:Pos} {Q:Value->Shared->Prop} (I:Inv X pins σ H s) (hg:Gl X x) (hm:X.mg x=some u) (h:Q u s)
  (hd:(x==("__debug__" : Str))=false:=by decide):wpAny (model X.prog X.w) X.A (eval (.Name x pos) X.env) Q E s:=
 Calls.Name_function_global I.ok.kind hg (Calls.loadGlobal_global (by rw[I.ok.glob]; exact I.mod.glob.keeps I.bk) hm h) hd
theorem Hg {E:Value->Shared->Prop} {pins:List (Addr×Obj)} {s:Shared} {σ:St} {H:Hp} {x:Str} {u:Value} {pos:Pos} {Q:Value->Shared->Prop} (I:Inv X pins σ H s) (hg:Gl X x) (hm:X.mg x=none) (hv:zCF x=some u) (h:Q u s)
  (hn:x ≠ "__name__" := by decide) (hd:(x==("__debug__" : Str))=false:=by decide):wpAny (model X.prog X.w) X.A (eval (.Name x pos) X.env) Q E s:=by
 obtain⟨mb,h1,h2⟩:=I.mod.blt;exact Calls.Name_function_global I.ok.kind hg (Calls.loadGlobal_builtin (by rw[I.ok.glob]; exact I.mod.glob.keeps I.bk) hm (by rw[I.ok.blt]; exact h1.keeps I.bk) ((h2 x hn).trans hv) h) hd
theorem V3 {x:Str} {v:V} {u:Value} {pos:Pos} (hg:Gl X x) (hm:X.mg x=some u) (r:RelV v u) (hd:(x==("__debug__" : Str))=false:=by decide):PE X (.Name x pos) (tC v):=
 fun _ _ _ H _ I h=>Hb I hg hm ⟨v,H,I,r,h⟩ hd
theorem GL {x:Str} {v:V} {u:Value} {pos:Pos} (hg:Gl X x) (hm:X.mg x=none) (hv:zCF x=some u) (r:RelV v u) (hn:x ≠ "__name__" := by decide) (hd:(x==("__debug__" : Str))=false:=by decide):PE X (.Name x pos) (tC v):=
 fun _ _ _ H _ I h=>Hg I hg hm hv ⟨v,H,I,r,h⟩ hn hd
variable {a b:Expr} {ta tb:TE} {pos:Pos}
def PC (X:Cx) (op:CmpOp) (a b:Expr) (t:TE):Prop:=
 ∀ (pins:List (Addr×Obj)) (s:Shared) (σ:St) (H:Hp) (Q:VK),Inv X pins σ H s->t σ H Q ->
  wpAny (model X.prog X.w) X.A (eval a X.env) (fun v s₁ => wpAny (model X.prog X.w) X.A (eval b X.env) (fun u s₂ => wpAny (model X.prog X.w) X.A (compareOp op v u) (EP X pins σ Q) X.xe s₂) X.xe s₁) X.xe s
def tB (t:TE):TT:=fun σ H Q=>t σ H fun x H1=>∃ c,x = .bl c/\Q c H1
theorem OK {op:CmpOp} {t:TE} (h:PC X op a b t) (h1:behindInMarks op b=false:=by first | exact nobehind _ (by decide) (by decide) | rfl):PT X (.Compare a [op] [b] pos) (tB t):=by
 intro pins s σ H Q I hw;refine wpAny_isTrue_Compare1 (Cw (h pins s σ H _ I hw) fun v s1 h1=>Cw h1 fun u s2 h2=>Cw h2 fun c s3 ⟨x,H1,I1,r1,q1⟩=>?_) h1;obtain⟨d,rfl,q⟩:=q1;cases r1;exact wpAny_truthy_bool ⟨H1,I1,q⟩
theorem Cn {e:Expr} {t:TE} (h:PE X e t) (he:∀ whole,isTrue e X.env whole=(do let v <- whole; standAt e.pos; holding [v] (truthy v)):=by intro _; rfl):PT X e (tB t):=by
 intro pins s σ H Q I hw;refine isTrue_plain (Cw (h pins s σ H _ I hw) fun v s1 ⟨x,H1,I1,r1,q1⟩=>?_) (he _);obtain⟨d,rfl,q⟩:=q1;cases r1;exact wpAny_truthy_bool ⟨H1,I1,q⟩
variable {tA tB':TT} {rest:List Expr}
def NX (t u:TT):TT:=fun σ H Q=>t σ H fun c H1=>if c=true then u σ H1 Q else Q false H1
def PU (t u:TT):TT:=fun σ H Q=>t σ H fun c H1=>if c=true then Q true H1 else u σ H1 Q
def NE (t:TT):TT:=fun σ H Q=>t σ H fun c H1=>Q (!c) H1
theorem Mp (ha:PT X a tA):PW X (.BoolOp .And [a] pos) tA:=by
 intro wh pins s σ H Q I h;refine isTrue_and (Cw (ha pins s σ H Q I h) fun c s1 e=>?_);cases c with
 | true=>exact isTrue_and_nil e
 | false=>exact e
theorem Ft (ha:PT X a tA):PW X (.BoolOp .Or [a] pos) tA:=by
 intro wh pins s σ H Q I h;refine isTrue_or (Cw (ha pins s σ H Q I h) fun c s1 e=>?_);cases c with
 | false=>exact isTrue_or_nil e
 | true=>exact e
theorem On (ha:PT X a tA) (hb:PW X (.BoolOp .And (b::rest) pos) tB'):PW X (.BoolOp .And (a::b::rest) pos) (NX tA tB'):=by
 intro wh pins s σ H Q I h;refine isTrue_and (Cw (ha pins s σ H _ I h) fun c s1 ⟨H1,I1,q1⟩=>?_);cases c with
 | true=>exact hb wh pins s1 σ H1 Q I1 q1
 | false=>exact⟨H1,I1,q1⟩
theorem Gv (ha:PT X a tA) (hb:PW X (.BoolOp .Or (b::rest) pos) tB'):PW X (.BoolOp .Or (a::b::rest) pos) (PU tA tB'):=by
 intro wh pins s σ H Q I h;refine isTrue_or (Cw (ha pins s σ H _ I h) fun c s1 ⟨H1,I1,q1⟩=>?_);cases c with
 | true=>exact⟨H1,I1,q1⟩
 | false=>exact hb wh pins s1 σ H1 Q I1 q1
theorem Dc (ha:PT X a tA):PT X (.UnaryOp .Not a pos) (NE tA):=by
 intro pins s σ H Q I h;exact isTrue_not (ha pins s σ H (fun c H1=>Q (!c) H1) I h)
def LA (ta tb:TE):TE:=fun σ H Q=>ta σ H fun x H1=>∃ c,x = .bl c/\if c=true then tb σ H1 Q else Q (.bl false) H1
def LQ (ta:TE):TE:=fun σ H Q=>ta σ H fun x H1=>∃ c,x = .bl c/\Q (.bl (!c)) H1
theorem Wv {op} {t:TE} (h:PE X a t):PE X (.BoolOp op [a] pos) t:=fun pins s σ H Q I hw=>BoolOp_one (h pins s σ H Q I hw)
theorem Wz (ha:PE X a ta) (hb:PE X (.BoolOp .And (b::rest) pos) tb):PE X (.BoolOp .And (a::b::rest) pos) (LA ta tb):=by
 intro pins s σ H Q I h;refine BoolOp_and (Cw (ha pins s σ H _ I h) fun v s1 ⟨x,H1,I1,r1,q1⟩=>?_);obtain⟨c,rfl,q1⟩:=q1;cases r1;refine wpAny_truthy_bool ?_;cases c with
 | true=>exact hb pins s1 σ H1 Q I1 q1
 | false=>exact⟨.bl false,H1,I1,rfl,q1⟩
theorem G8 (ha:PE X a ta):PE X (.UnaryOp .Not a pos) (LQ ta):=by
 intro pins s σ H Q I h;refine UnaryOp_ (Cw (ha pins s σ H _ I h) fun v s1 ⟨x,H1,I1,r1,q1⟩=>?_);obtain⟨c,rfl,q1⟩:=q1;cases r1;exact not_of (wpAny_truthy_bool ⟨.bl (!c),H1,I1,rfl,q1⟩)
def PQ (t:TT) (ta tb:TE):TE:=fun σ H Q=>t σ H fun c H1=>if c=true then ta σ H1 Q else tb σ H1 Q
theorem Me {c:Expr} (hc:PT X c tA) (ha:PE X a ta) (hb:PE X b tb):PE X (.IfExp c a b pos) (PQ tA ta tb):=by
 intro pins s σ H Q I h;refine wpAny_IfExp (Cw (hc pins s σ H _ I h) fun d s1 ⟨H1,I1,q1⟩=>?_);cases d with
 | true=>exact ha pins s1 σ H1 Q I1 q1
 | false=>exact hb pins s1 σ H1 Q I1 q1
end
def SqL (K:zAa) (H:Hp) (a:Addr) (xs:List V):Prop:=
 Rd H a (.lst xs) \/
  ∃ (o:Obj) (its:Array Value) (n:Nat),K.lookup a=some o/\o.cls = .type "list"/\o.dict=none/\o.data = .seq its n/\its.size<=sizeLine/\Vals xs its.toList
def SqT (K:zAa) (H:Hp) (a:Addr) (xs:List V):Prop:=
 Rd H a (.tup xs) \/
  ∃ (o:Obj) (its:Array Value) (n:Nat),K.lookup a=some o/\o.cls = .type "tuple"/\o.data = .seq its n/\its.size<=sizeLine/\Vals xs its.toList
def NG:Value->Option V
 | .none=>some .non
 | .bool b=>some (.bl b)
 | .int i _=>some (.int i)
 | .str x _=>some (.str x)
 | .bytes b _=>some (.byt b)
 | .float b _=>some (.flt b)
 | .ref a=>some (.ref a)
 | .type n=>some (.ty n)
 | _=>none
theorem RelV.abs {x:V} {u:Value} (r:RelV x u):NG u=some x:=by
 cases x with
 | non=>cases r; rfl
 | bl _=>cases r; rfl
 | int _=>obtain⟨t,rfl⟩:=r; rfl
 | str _=>obtain⟨t,rfl⟩:=r; rfl
 | byt _=>obtain⟨t,rfl⟩:=r; rfl
 | flt _=>obtain⟨t,rfl⟩:=r; rfl
 | ref _=>cases r; rfl
 | ty _=>cases r; rfl
theorem RelV.inj {x y:V} {u:Value} (r:RelV x u) (q:RelV y u):x=y:=Option.some.inj (r.abs.symm.trans q.abs)
theorem Vals.inj:∀ {xs ys:List V} {us:List Value},Vals xs us->Vals ys us->xs=ys
 | _,_,_,.nil,.nil=>rfl
 | _,_,_,.cons r t,.cons r' t'=>by rw[r.inj r',Vals.inj t t']
section
variable {X:Cx} {pins:List (Addr×Obj)} {σ:St} {H:Hp} {s:Shared} {a:Addr} {xs ys:List V}
theorem SqL.of {K:zAa} (h:H a=some (.lst xs)):SqL K H a xs:=.inl (.inl h)
theorem SqT.of {K:zAa} (h:H a=some (.tup xs)):SqT K H a xs:=.inl (.inl h)
theorem Inv.list (I:Inv X pins σ H s) (h:SqL X.K H a xs):∃ its:List Value,Vals xs its/\PlainL s.heap a its.toArray/\xs.length<=sizeLine:=by
 rcases h with h | ⟨o,its,n,hk,hc,hd,hs,hz,r⟩
 ·obtain⟨z,its,n,r,e⟩:=h.ok I.hok
  exact⟨its,r,⟨_,n,e,rfl,rfl,rfl⟩,z⟩
 ·refine⟨its.toList,r,⟨o,n,I.kIn a o hk,hc,hd,by simpa using hs⟩,?_⟩
  have e:=r.length;simp only [zAC] at e
  lia
theorem Inv.tuple (I:Inv X pins σ H s) (h:SqT X.K H a xs):∃ its:List Value,Vals xs its/\IsTup s.heap a its.toArray/\xs.length<=sizeLine:=by
 rcases h with h | ⟨o,its,n,hk,hc,hs,hz,r⟩
 ·obtain⟨z,its,r,p⟩:=h.ok I.hok
  exact⟨its,r,p,z⟩
 ·refine⟨its.toList,r,⟨o,I.kIn a o hk,hc,n,by simpa using hs⟩,?_⟩
  have e:=r.length;simp only [zAC] at e
  lia
theorem Inv.list_inj (I:Inv X pins σ H s) (h:SqL X.K H a xs) (h':SqL X.K H a ys):xs=ys:=by
 obtain⟨its,r,⟨o,n,e,_,_,d⟩,_⟩:=I.list h;obtain⟨its',r',⟨o',n',e',_,_,d'⟩,_⟩:=I.list h';rw[e] at e'; cases e';rw[d] at d';injection d' with d1 _;have:its=its':=by simpa using congrArg Array.toList d1
 subst this;exact r.inj r'
theorem Inv.tuple_inj (I:Inv X pins σ H s) (h:SqT X.K H a xs) (h':SqT X.K H a ys):xs=ys:=by
 obtain⟨its,r,⟨o,e,_,n,d⟩,_⟩:=I.tuple h;obtain⟨its',r',⟨o',e',_,n',d'⟩,_⟩:=I.tuple h';rw[e] at e'; cases e';rw[d] at d';injection d' with d1 _;have:its=its':=by simpa using congrArg Array.toList d1
 subst this;exact r.inj r'
end
abbrev Cx.wish (X:Cx) (E:Value->Shared->Prop):Cx:={ X with xe:=E }
abbrev Cx.nox (X:Cx):Cx:=X.wish fun _ _=>False
theorem Cx.Ok.wish {X:Cx} (ok:X.Ok) (E:Value->Shared->Prop):(X.wish E).Ok:=
 ⟨ok.mod,ok.kind,ok.glob,ok.blt,ok.above,ok.inj,ok.has,ok.cab,ok.hd,ok.frames,ok.stk,ok.exf,ok.bs,ok.bsz,ok.noex,ok.exfs,ok.funs,ok.frf⟩
theorem Cx.Ok.unwish {X:Cx} {E:Value->Shared->Prop} (ok:(X.wish E).Ok):X.Ok:=
 ⟨ok.mod,ok.kind,ok.glob,ok.blt,ok.above,ok.inj,ok.has,ok.cab,ok.hd,ok.frames,ok.stk,ok.exf,ok.bs,ok.bsz,ok.noex,ok.exfs,ok.funs,ok.frf⟩
section
variable {X:Cx} {pins:List (Addr×Obj)} {σ:St} {H:Hp} {s:Shared} {E:Value->Shared->Prop}
theorem Inv.wish (I:Inv X pins σ H s) (E:Value->Shared->Prop):Inv (X.wish E) pins σ H s:=⟨I.ok.wish E,I.os,I.bare,I.base,I.loc,I.cell,I.free,I.freeC,I.pin,I.hok,I.len⟩
theorem Inv.unwish (I:Inv (X.wish E) pins σ H s):Inv X pins σ H s:=⟨I.ok.unwish,I.os,I.bare,I.base,I.loc,I.cell,I.free,I.freeC,I.pin,I.hok,I.len⟩
theorem SP.unwish {D:Om} {f:Flow} {s':Shared} (h:SP (X.wish E) pins D f s'):SP X pins D f s':=by
 cases f with
 | next=>obtain⟨σ',H',I,q⟩:=h; exact⟨σ',H',I.unwish,q⟩
 | brk=>obtain⟨σ',H',I,q⟩:=h; exact⟨σ',H',I.unwish,q⟩
 | cont=>obtain⟨σ',H',I,q⟩:=h; exact⟨σ',H',I.unwish,q⟩
 | ret u=>obtain⟨v,σ',H',I,r,q⟩:=h; exact⟨v,σ',H',I.unwish,r,q⟩
theorem PSs.nox {st:List Stmt} {t:TS} (h:PSs X.nox st t):PSs X st t:=fun pins s σ H D I hw=>
 wpAny_mono (h pins s σ H D (I.wish _) hw) (fun _ _ q=>q.unwish) fun _ _ z=>False.elim z
end
section
variable {X:Cx} {st:Stmt} {rest:List Stmt} {t u:TS} {e:Expr} {te:TE} {pos:Pos}
def LX:TS:=fun D σ H=>D.nx σ H
def LV (t u:TS):TS:=fun D σ H=>t { D with nx:=u D } σ H
theorem Bl:PSs X [] LX:=fun _ _ σ H _ I h=>wpAny_execs_nil ⟨σ,H,I,h⟩
theorem Ae (h1:PS X st t) (h2:PSs X rest u):PSs X (st::rest) (LV t u):=by
 intro pins s σ H D I h;refine wpAny_execs_cons (Cw (h1 pins s σ H { D with nx:=u D } I h) fun f s1 q=>?_);cases f with
 | next=>
  obtain⟨σ',H',I',q⟩:=q;exact h2 pins s1 σ' H' D I' q
 | ret v=>exact q
 | brk=>exact q
 | cont=>exact q
theorem Ao (h1:PS X st t):PSs X [st] t:=by
 intro pins s σ H D I h;refine wpAny_execs_cons (Cw (h1 pins s σ H D I h) fun f s1 q=>?_);cases f with
 | next=>exact wpAny_execs_nil q
 | ret v=>exact q
 | brk=>exact q
 | cont=>exact q
theorem Inv.quiet {pins:List (Addr×Obj)} {σ:St} {H:Hp} {s:Shared} (I:Inv X pins σ H s):interactive X.env=false:=by simp [interactive,I.ok.kind]
def MS (te:TE):TS:=fun D σ H=>te σ H fun _ H1=>D.nx σ H1
theorem Cr (he:PE X e te) (hs:swapsWith e none pos.line X.env=pure false:=by rfl):PS X (.Expr e pos) (MS te):=by
 intro pins s σ H D I h;exact wpAny_Expr_any (Cw (he pins s σ H _ I h) fun v s1 ⟨x,H1,I1,r1,q1⟩=>⟨σ,H1,I1,q1⟩) I.quiet hs
def NQ (te:TE):TS:=fun D σ H=>te σ H D.rt
theorem Be (he:PE X e te):PS X (.Return (some e) pos) (NQ te):=by
 intro pins s σ H D I h;exact wpAny_Return_some (Cw (he pins s σ H _ I h) fun v s1 ⟨x,H1,I1,r1,q1⟩=>⟨x,σ,H1,I1,r1,q1⟩)
def OG (c:TT) (t u:TS):TS:=fun D σ H=>c σ H fun b H1=>if b=true then t D σ H1 else u D σ H1
theorem Bw {c:Expr} {a b:List Stmt} {tc:TT} (hc:PT X c tc) (ha:PSs X a t) (hb:PSs X b u):PS X (.If c a b pos) (OG tc t u):=by
 intro pins s σ H D I h;refine wpAny_If (Cw (hc pins s σ H _ I h) fun d s1 ⟨H1,I1,q1⟩=>?_);cases d with
 | true=>exact ha pins s1 σ H1 D I1 q1
 | false=>exact hb pins s1 σ H1 D I1 q1
def JX:TS:=fun _ _ _=>False
theorem Ew:PS X st JX:=fun _ _ _ _ _ _ h=>h.elim
end
abbrev TG:=V->St->Hp->(St->Hp->Prop)->Prop
abbrev IF:=List V->St->Hp->(St->Hp->Prop)->Prop
def PG (X:Cx) (target:Expr) (t:TG):Prop:=
 ∀ (pins:List (Addr×Obj)) (s:Shared) (σ:St) (H:Hp) (v:V) (u:Value) (Q:St->Hp->Prop),Inv X pins σ H s->RelV v u->t v σ H Q ->
  wpAny (model X.prog X.w) X.A (assign target X.env u) (fun _ s'=>∃ σ' H',Inv X pins σ' H' s'/\Q σ' H') X.xe s
def MK (X:Cx) (ts:List Expr) (t:IF):Prop:=
 ∀ (pins:List (Addr×Obj)) (s:Shared) (σ:St) (H:Hp) (vs:List V) (us:List Value) (Q:St->Hp->Prop),Inv X pins σ H s->Vals vs us->t vs σ H Q ->
  wpAny (model X.prog X.w) X.A (assignInOrder ((assignEach ts X.env).map (·.2)) us) (fun _ s'=>∃ σ' H',Inv X pins σ' H' s'/\Q σ' H') X.xe s
abbrev IP:=V->V->V->Hp->(Hp->Prop)->Prop
def ME (X:Cx) (t:IP):Prop:=
 ∀ (pins:List (Addr×Obj)) (s:Shared) (σ:St) (H:Hp) (o i v:V) (ov iv u:Value) (Q:Hp->Prop),Inv X pins σ H s->RelV o ov->RelV i iv->RelV v u->t o i v H Q ->
  wpAny (model X.prog X.w) X.A (setItem ov iv u) (fun _ s'=>∃ H',Inv X pins σ H' s'/\Q H') X.xe s
section
variable {X:Cx} {pos:Pos}
def Fb (i:Nat):TG:=fun v σ H Q=>Q (σ.set i (some v)) H
theorem Ay {i:Nat} {x:Str} (hN:X.N.Nodup) (hi:X.N[i]?=some x) (hx:MZ X.env.scope x) (hf:X.fn x=true\/X.env.scope.names.lookup x=some .local:=by first | exact .inl rfl | exact .inr rfl | assumption):PG X (.Name x pos) (Fb i):=by
 intro pins s σ H v u Q I r h;exact wpAny_assign_Name (D7 I hN hi hx r (fun s' I'=>⟨_,H,I',h⟩) hf)
def AX:IF:=fun vs σ H Q=>vs=[]/\Q σ H
def Nc (t:TG) (u:IF):IF:=fun vs σ H Q=>∃ v r,vs=v::r/\t v σ H fun σ' H'=>u r σ' H' Q
theorem Dh:MK X [] AX:=by
 intro pins s σ H vs us Q I r h;obtain⟨e,h⟩:=h;subst e;cases r;exact assignInOrder_nil ⟨σ,H,I,h⟩
theorem Bk {e:Expr} {es:List Expr} {t:TG} {u:IF} (h1:PG X e t) (h2:MK X es u)
  (hs:(assignEach (e::es) X.env).map (·.2)=assign e X.env::(assignEach es X.env).map (·.2):=by rfl):MK X (e::es) (Nc t u):=by
 intro pins s σ H vs us Q I r h;obtain⟨v,vr,e1,h⟩:=h;subst e1;cases r with
 | cons r rr=>
  rw[hs];refine assignInOrder_cons (Cw (h1 pins s σ H _ _ _ I r h) fun _ s1 ⟨σ1,H1,I1,q1⟩=>?_);exact h2 pins s1 σ1 H1 _ _ Q I1 rr q1
def X5 (K:zAa) (n:Nat) (t:IF):TG:=fun v σ H Q=>∃ a xs,v = .ref a/\SqT K H a xs/\xs.length=n/\t xs σ H Q
theorem Ea {es:List Expr} {k:Nat} {t:IF} {n:Nat} (hc:X.calm=true) (h:MK X es t)
  (hn:(assignEach es X.env).length=n:=by rfl) (hst:(assignEach es X.env).findIdx? (·.1)=none:=by rfl):PG X (.Tuple es k pos) (X5 X.K n t):=by
 intro pins s σ H v u Q I r hw;obtain⟨a,xs,e1,hq,hl,hw⟩:=hw;subst e1;cases r;obtain⟨its,rv,ht,hz⟩:=I.tuple hq;refine assign_Tuple_tuple (I.ok.hd hc) ht (by simp [hn,<- hl,rv.length]) hst fun h' hx=>?_;have I1:Inv X pins σ H { s with heap:=h' }:=I.kept (t':=s.toks) fun b o e=>hx b o (zAw (zAp e)) e;exact h pins _ σ H xs _ Q I1 (by simpa using rv) hw
def NZ (to ti:TE) (t:IP):TG:=fun v σ H Q=>to σ H fun o H1=>ti σ H1 fun i H2=>t o i v H2 fun H3=>Q σ H3
theorem KF {o i:Expr} {to ti:TE} {t:IP} (ho:PE X o to) (hi:PE X i ti) (hs:ME X t)
  (ha:∀ v,assign (.Subscript o i pos) X.env v=(do
   let ov <- holding [v] (eval o X.env)
   let iv <- holding [v,ov] (eval i X.env)
   standAt pos
   holding [v,ov,iv] (setItem ov iv v)
   release [v,ov,iv] []):=by intro _; rfl):PG X (.Subscript o i pos) (NZ to ti t):=by
 intro pins s σ H v u Q I r h;rw[ha];refine zCC (wpAny_holding (Cw (ho pins s σ H _ I h) fun ov s1 ⟨x,H1,I1,r1,q1⟩=>?_));refine zCC (wpAny_holding (Cw (hi pins s1 σ H1 _ I1 q1) fun iv s2 ⟨y,H2,I2,r2,q2⟩=>?_));refine zCC (wpAny_standAt (zCC (wpAny_holding (Cw (hs pins s2 σ H2 x y v ov iv u _ I2 r1 r2 r q2) fun _ s3 ⟨H3,I3,q3⟩=>?_))));exact wpAny_release ⟨σ,H3,I3,q3⟩
def FR (te:TE) (g:TG):TS:=fun D σ H=>te σ H fun x H1=>g x σ H1 D.nx
theorem Xz {tg e:Expr} {te:TE} {g:TG} (he:PE X e te) (hg:PG X tg g) (hs:swapsWithSole [tg] e pos.line X.env=pure false:=by rfl) (hw:swappedStores [tg] e X.env=pure none:=by rfl)
  (h1:(assignEach [tg] X.env).map (·.2)=[assign tg X.env]:=by rfl):PS X (.Assign [tg] e pos) (FR te g):=by
 intro pins s σ H D I h;refine wpAny_Assign_stores (Cw (he pins s σ H _ I h) fun v s1 ⟨x,H1,I1,r1,q1⟩=>?_) hs hw;rw[h1];exact Cw (hg pins s1 σ H1 x v _ I1 r1 q1) fun _ s2 q=>q
theorem Bf {i:Nat} {x:Str} {e:Expr} {te:TE} {pos':Pos} (hN:X.N.Nodup) (hi:X.N[i]?=some x) (hx:MZ X.env.scope x) (he:PE X e te) (hs:swapsWith e (some (.Name x pos')) pos.line X.env=pure false:=by rfl) (hf:X.fn x=true\/X.env.scope.names.lookup x=some .local:=by first | exact .inl rfl | exact .inr rfl | assumption) :
  PS X (.Assign [.Name x pos'] e pos) (FR te (Fb i)):=by
 intro pins s σ H D I h;refine wpAny_Assign_Name (Cw (he pins s σ H _ I h) fun v s1 ⟨y,H1,I1,r1,q1⟩=>?_) hs;exact D7 I1 hN hi hx r1 (fun s2 I2=>⟨_,H1,I2,q1⟩) hf
end
structure It where
 go:Nat->Hp->Prop
 yld:Nat->Hp->V->Hp->Prop
 stop:Nat->Hp->Prop
def Oo (X:Cx) (pins:List (Addr×Obj)) (H:Hp) (b:Addr):Prop:=
 H b=none/\b≠X.env.locals/\b∉X.fs/\(b∈X.ex\/X.s₀.heap.objs.size<=b)/\(∀ x c,X.env.cells.lookup x=some c->c≠b)/\∀ p∈X.pn++pins,p.1≠b
theorem Inv.fpOk {X:Cx} {pins:List (Addr×Obj)} {σ:St} {H H':Hp} {s:Shared} {b:Addr} (I:Inv X pins σ H s) (hb:s.heap.objs.size<=b) (hn:H' b=none):Oo X pins H' b:=by
 refine⟨hn,zBk (zAK I.lt hb),I.nofs hb,.inr (zAG I.sz hb),fun x c e z=>?_,fun p hp z=>?_⟩
 ·obtain⟨v,q⟩:=I.cell x c e
  exact absurd (zAK q.lt (by rw[z]; exact hb)) (zBm _)
 ·exact absurd (zAK (zAp (I.pin p hp).1) (by rw[z]; exact hb)) (zBm _)
structure Wq (P:Program) (w:World) (K:zAa) (tg:Expr) (J:It) (fp:List Addr) (it:Addr) (tn:Nat->Heap->Prop):Prop where
 mem:it∈fp
 obj:∀ i h,tn i h->∀ b∈fp,∃ o,h.get? b=some o/\∀ v,o.data ≠ .cell v
 keep:∀ i h h',tn i h->(∀ b∈fp,∀ o,h.get? b=some o->h'.get? b=some o)->tn i h'
 item:∀ (X:Cx),X.prog=P->X.w=w->X.K=K->X.calm=true->∀ (i:Nat) (pins:List (Addr×Obj)) (s:Shared) (σ:St) (H:Hp) (E:Value->Shared->Prop),Inv X pins σ H s->(∀ b∈fp,Oo X pins H b)->tn i s.heap->J.go i H ->
  wpAny (model P w) X.A (pyNext (.ref it)) (fun r s1=>∃ u,r=some u /\
   wpAny (model P w) X.A (letOwnedTupleGo tg (.ref it) u) (fun _ s2=>∃ x H',Inv X pins σ H' s2/\RelV x u/\J.yld i H x H'/\tn (i+1) s2.heap/\∀ b∈fp,H' b=none) E s1) E s
 done:∀ (X:Cx),X.prog=P->X.w=w->X.K=K->X.calm=true->∀ (i:Nat) (pins:List (Addr×Obj)) (s:Shared) (σ:St) (H:Hp) (E:Value->Shared->Prop),Inv X pins σ H s->(∀ b∈fp,Oo X pins H b)->tn i s.heap->J.stop i H ->
  wpAny (model P w) X.A (pyNext (.ref it)) (fun r s1=>r=none/\Inv X pins σ H s1) E s
 self:∀ (A:Around) (i:Nat) (s:Shared) (Q:Value->Shared->Prop) (E:Value->Shared->Prop),tn i s.heap->Q (.ref it) s->wpAny (model P w) A (pyIter (.ref it)) Q E s
abbrev TI:=St->Hp->(It->Hp->Prop)->Prop
def PK (X:Cx) (pins:List (Addr×Obj)) (σ:St) (tg:Expr) (R:It->Hp->Prop) (itv:Value) (s2:Shared):Prop:=
 ∃ (it:Addr) (fp:List Addr) (tn:Nat->Heap->Prop) (J:It) (H':Hp),itv = .ref it/\Inv X pins σ H' s2/\Wq X.prog X.w X.K tg J fp it tn/\tn 0 s2.heap/\(∀ b∈fp,Oo X pins H' b)/\R J H'
def PI (X:Cx) (tg iter:Expr) (wi:TI):Prop:=
 ∀ (pins:List (Addr×Obj)) (s:Shared) (σ:St) (H:Hp) (R:It->Hp->Prop),Inv X pins σ H s->wi σ H R ->
  wpAny (model X.prog X.w) X.A (eval iter X.env) (fun v s1=>wpAny (model X.prog X.w) X.A (pyIter v) (PK X pins σ tg R) X.xe s1) X.xe s
theorem U5 {M:Model} {A:Around} {E:Value->Shared->Prop} {s:Shared} {tg:Expr} {it:Addr} {u:Value} {o:Obj} {n:String} {vs:Array Value} {Q:Unit->Shared->Prop} (ho:s.heap.get? it=some o) (hc:o.cls = .type n) (hd:o.data = .fields vs)
  (hn:["enumerate", "zip", "dict_itemiterator", "dict_reverseitemiterator", "odict_iterator", "itertools.zip_longest", "itertools.pairwise"].contains n=false) (hQ:Q () s):wpAny M A (letOwnedTupleGo tg (.ref it) u) Q E s:=by
 unfold letOwnedTupleGo;cases tg <;> first
  | exact zCD hQ
  | (cases u <;> first
    | exact zCD hQ
    | (refine zCC (wpAny_load ho ?_)
       rw[hc,hd];show wpAny M A (if (["enumerate", "zip", "dict_itemiterator", "dict_reverseitemiterator", "odict_iterator", "itertools.zip_longest", "itertools.pairwise"].contains n&&vs[0]?==some (rawInt _))=true then _ else _) Q E s;rw[if_neg (by intro h; rw[hn,zCs] at h; cases h)];exact zCD hQ))
def KM (K:zAa) (a:Addr):It:=
 ⟨fun i H=>∃ xs x,SqL K H a xs/\xs[i]?=some x,fun i H x H'=>H'=H/\∀ xs,SqL K H a xs->xs[i]?=some x,fun i H=>∃ xs,SqL K H a xs/\xs.length<=i⟩
def IR (lo:Int) (n:Nat):It:=⟨fun i _=>i<n,fun i H x H'=>H'=H/\x = .int (lo+i),fun i _=>n<=i⟩
theorem X6 {P:Program} {w:World} {K:zAa} {tg:Expr} (a it:Addr):Wq P w K tg (KM K a) [it] it (fun i h=>h.IsListIter it a i) where
 mem:=by simp
 obj:=fun i h st b hb=>by
  have e:b=it:=by simpa using hb
  subst e;obtain⟨o,e,c,d⟩:=st;exact⟨o,e,fun v z=>by rw[d] at z; cases z⟩
 keep:=fun i h h' st k=>st.at fun o e=>k it (by simp) o e
 item:=by
  intro X hP hw hK hc i pins s σ H E I hf st hg;subst hP hw hK;obtain⟨xs,x,hq,hx⟩:=hg;obtain⟨its,rv,p,hz⟩:=I.list hq;obtain⟨u,hu,ru⟩:=rv.get hx;obtain⟨f0,f1,f2,f3,f4,f5⟩:=hf it (by simp);refine wpAny_pyNext_list_item st p.isList (x:=u) (by simpa using hu) fun h' st' sb=>?_;have I1:Inv X pins σ H { s with heap:=h' }:=I.turned (t':=s.toks) (fun b o hb e=>(sb.2 b hb).trans e) f0 f1 f3 f4 f5;obtain⟨o,e,c,d⟩:=id st';exact⟨u,rfl,U5 (s:={ s with heap:=h' }) e c d (by decide) ⟨x,H,I1,ru,⟨rfl,fun ys hy=>by rw[I.list_inj hy hq]; exact hx⟩,st',fun b hb=>(hf b hb).1⟩⟩
 done:=by
  intro X hP hw hK hc i pins s σ H E I hf st hg;subst hP hw hK;obtain⟨xs,hq,hx⟩:=hg;obtain⟨its,rv,p,hz⟩:=I.list hq;obtain⟨f0,f1,f2,f3,f4,f5⟩:=hf it (by simp);have hl:=rv.length;exact wpAny_pyNext_list_end (I.ok.hd hc) st p.isList (by simp; lia) fun h' eb=>⟨rfl,I.turned (t':=s.toks) (fun b o hb e=>eb b o hb e) f0 f1 f3 f4 f5⟩
 self:=fun _ _ _ _ _ st h=>wpAny_pyIter_listiter st h
theorem O7 {P:Program} {w:World} {K:zAa} {tg:Expr} (it:Addr) (lo:Int) (n:Nat):Wq P w K tg (IR lo n) [it] it (fun i h=>IsRangeIter h it (lo+(i:Nat)*1) ((n:Int)-(i:Nat)) 1) where
 mem:=by simp
 obj:=fun i h st b hb=>by
  have e:b=it:=by simpa using hb
  subst e;exact⟨_,st,fun v z=>by
   have z':Data.fields _=Data.cell v:=z;cases z'⟩
 keep:=fun i h h' st k=>k it (by simp) _ st
 item:=by
  intro X hP hw hK hc i pins s σ H E I hf st hg;subst hP hw hK;obtain⟨f0,f1,f2,f3,f4,f5⟩:=hf it (by simp);have W:=Walks.range (prog:=X.prog) (w:=X.w) (I.ok.hd hc) it lo 1 n;refine W.item i s _ _ hg st fun v h' tk hv st' kk=>?_;obtain⟨t,rfl⟩:=hv;have I1:Inv X pins σ H { s with heap:=h',toks:=tk }:=I.turned (fun b o hb e=>kk b o (by simpa using hb) e) f0 f1 f3 f4 f5;refine⟨_,rfl,U5 (s:={ s with heap:=h',toks:=tk }) (n := "range_iterator") st' rfl rfl (by decide) ⟨.int (lo+i),H,I1,⟨t,?_⟩,⟨rfl,rfl⟩,st',fun b hb=>(hf b hb).1⟩⟩;rw[Int.mul_one]
 done:=by
  intro X hP hw hK hc i pins s σ H E I hf st hg;subst hP hw hK;obtain⟨f0,f1,f2,f3,f4,f5⟩:=hf it (by simp);exact wpAny_pyNext_range_end (I.ok.hd hc) st (by have:n<=i:=hg; lia) fun h' eb=>⟨rfl,I.turned (t':=s.toks) (fun b o hb e=>eb b o hb e) f0 f1 f3 f4 f5⟩
 self:=fun _ _ _ _ _ st h=>wpAny_pyIter_rangeiter st h
section
variable {X:Cx} {tg:Expr}
def LB (K:zAa) (tl:TE):TI:=fun σ H R=>tl σ H fun x H1=>∃ a,x = .ref a/\(∃ xs,SqL K H1 a xs)/\R (KM K a) H1
theorem Bt {l:Expr} {tl:TE} (hl:PE X l tl):PI X tg l (LB X.K tl):=by
 intro pins s σ H R I h;refine Cw (hl pins s σ H _ I h) fun v s1 ⟨x,H1,I1,r1,q1⟩=>?_;obtain⟨a,e,⟨xs,hq⟩,q⟩:=q1;subst e;cases r1;obtain⟨its,rv,p,hz⟩:=I1.list hq;refine wpAny_pyIter_list p.isList ?_;refine⟨s1.heap.objs.size,[s1.heap.objs.size],_,_,H1,rfl,I1.kept (t':=s1.toks) fun b o e=>zAd _ e,X6 a _,⟨_,zAu _ rfl,rfl,rfl⟩,fun b hb=>?_,q⟩;have e:b=s1.heap.objs.size:=by simpa using hb
 subst e;exact I1.fpOk (zAl _) (I1.hok.fresh (zAl _))
theorem EC {pins:List (Addr×Obj)} {σ:St} {H:Hp} {s:Shared} {R:It->Hp->Prop} {E:Value->Shared->Prop} {lo hi:Int} {t u v:Tok} {tk:Nat} (I:Inv X pins σ H s) (h1 : -(2^62)<=lo) (h2:lo<2^62) (h3 : -(2^62)<=hi) (h4:hi<2^62)
  (q:R (IR lo (hi-lo).toNat) H):wpAny (model X.prog X.w) X.A (pyIter (.ref s.heap.objs.size)) (PK X pins σ tg R) E { s with heap:=s.heap.push { cls:=.type "range",data:=.fields #[.int lo t,.int hi u,.int 1 v] },toks:=tk }:=by
 refine wpAny_pyIter_range (IsRange.new ..) (small_one h1 h2 h3 h4) ?_;have I1:Inv X pins σ H { s with heap:=s.heap.push { cls:=.type "range",data:=.fields #[.int lo t,.int hi u,.int 1 v] },toks:=tk }:=I.kept fun b o e=>zAd _ e;refine⟨(s.heap.push { cls:=.type "range",data:=.fields #[.int lo t,.int hi u,.int 1 v] }).objs.size,[(s.heap.push { cls:=.type "range",data:=.fields #[.int lo t,.int hi u,.int 1 v] }).objs.size],_,_,H,rfl,
  I1.kept (t':=tk) fun b o e=>zAd _ e,O7 _ lo (hi-lo).toNat,?_,fun b hb=>?_,q⟩
 ·have e1:lo+((0:Nat):Int)*1=lo:=by simp
  have e2:(((hi-lo).toNat:Nat):Int)-((0:Nat):Int)=Builtin.Range.rangeSize lo hi 1:=by rw[rangeSize_one]; split <;> lia
  show IsRangeIter _ _ (lo+((0:Nat):Int)*1) ((((hi-lo).toNat:Nat):Int)-((0:Nat):Int)) 1;rw[e1,e2];exact zAu _ rfl
 ·have e:b=(s.heap.push { cls:=.type "range",data:=.fields #[.int lo t,.int hi u,.int 1 v] }).objs.size:=by simpa using hb
  subst e;exact I1.fpOk (zAl _) (I1.hok.fresh (zAl _))
def MC (ta:TA):TI:=fun σ H R=>ta σ H fun vs H1=>∃ j:Int,vs=[.int j]/\-(2^62)<=j/\j<2^62/\R (IR 0 j.toNat) H1
theorem Cz {a:Expr} {ta:TA} {p pos:Pos} (hg:Gl X "range") (hm:X.mg "range" = none) (ha:PA X [a] ta) (hs:starEach [a] X.env=[(false,eval a X.env)]:=by rfl):PI X tg (.Call (.Name "range" p) [a] [] pos) (MC ta):=by
 intro pins s σ H R I h;refine Call_ (Hg I hg hm boot_range (PyProof.Rows.callWith_type1 (Cw (ha pos pins s σ H _ I h) fun us s1 ⟨vs,H1,I1,r1,q1⟩=>?_) hs rfl));obtain⟨j,e,q1,q2,q⟩:=q1;subst e;cases r1 with
 | cons r rr=>
  cases rr
  obtain⟨t,rfl⟩:=r;exact call_range_1 (EC I1 (by lia) (by lia) q1 q2 (by simpa using q))
def NR (wi:TI) (g:TG) (tb:TS):TS:=fun D σ H=>wi σ H fun J H1=>∃ W:Nat->Nat->St->Hp->Prop,(∃ m,W 0 m σ H1)/\∀ i m σ H,W i m σ H ->
 (J.stop i H/\D.nx σ H)\/(J.go i H/\∃ N:St->Hp->Prop,(∀ σ' H',N σ' H'->∃ m',m'<m/\W (i+1) m' σ' H')/\∀ x H',J.yld i H x H'->g x σ H' fun σ2 H2=>tb { D with nx:=N,ct:=N,bk:=D.nx } σ2 H2)
def Rl (fp:List Addr) (h:Heap):List (Addr×Obj):=fp.filterMap fun b=>(h.get? b).map fun o=>(b,o)
theorem Ic {fp:List Addr} {h:Heap} {b:Addr} {o:Obj} (hb:b∈fp) (e:h.get? b=some o):(b,o)∈Rl fp h:=List.mem_filterMap.mpr ⟨b,hb,by rw[e]; rfl⟩
theorem X7 {fp:List Addr} {h:Heap} {p:Addr×Obj} (hp:p∈Rl fp h):p.1∈fp/\h.get? p.1=some p.2:=by
 obtain⟨b,hb,e⟩:=List.mem_filterMap.mp hp;cases q:h.get? b with
 | none=>rw[q] at e; cases e
 | some o=>
  rw[q] at e;have e':(b,o)=p:=Option.some.inj e;subst e';exact⟨hb,q⟩
theorem Inv.pinned {pins:List (Addr×Obj)} {σ:St} {H:Hp} {s:Shared} {fp:List Addr} (I:Inv X pins σ H s) (hf:∀ b∈fp,Oo X pins H b) (ho:∀ b∈fp,∃ o,s.heap.get? b=some o/\∀ v,o.data ≠ .cell v):Inv X (pins++Rl fp s.heap) σ H s:=
 I.pins_of fun p hp=>(zAy.mp hp).elim (fun z=>I.pin p (zAR _ z)) fun z=>by
  obtain⟨hb,e⟩:=X7 z;obtain⟨f0,f1,f2,_⟩:=hf p.1 hb;obtain⟨o,e',d⟩:=ho p.1 hb;rw[e] at e'; cases e';exact⟨e,f0,f1,f2,d⟩
theorem Inv.unpinned {pins pl:List (Addr×Obj)} {σ:St} {H:Hp} {s:Shared} (I:Inv X (pins++pl) σ H s):Inv X pins σ H s:=I.pins_of fun p hp=>I.pin p (zAR _ (zCb _ hp))
theorem Ck {iter:Expr} {body:List Stmt} {wi:TI} {g:TG} {tb:TS} {pos:Pos} (hp:PassesOwn (model X.prog X.w) X.A X.env X.xe) (hc:X.calm=true) (hi:PI X tg iter wi) (hg:PG X tg g) (hb:PSs X body tb)
  (hs:∀ x,foldedSetIterable iter X.env x=pure x:=by intro _; rfl):PS X (.For tg iter body [] pos) (NR wi g tb):=by
 intro pins s σ H D I h;refine wpAny_For (Cw (hi pins s σ H _ I h) fun v s1 h1=>Cw h1 fun itv s2 h2=>?_) hs;obtain⟨it,fp,tn,J,H2,e,I2,T,st2,f2,W,⟨m0,w0⟩,turn⟩:=h2;subst e;have stat:∀ {H':Hp},(∀ b∈fp,H' b=none)->∀ b∈fp,Oo X pins H' b:=fun hn b hb=>⟨hn b hb,(f2 b hb).2⟩;refine codeAny_forLoop_any (fun n s'=>∃ i σ' H',Inv X pins σ' H' s'/\tn i s'.heap/\(∀ b∈fp,H' b=none)/\W i n σ' H') ?_ m0 ⟨0,σ,H2,I2,st2,fun b hb=>(f2 b hb).1,w0⟩;rintro n s3 ⟨i,σ3,H3,I3,st3,fr3,w3⟩;rcases turn i n σ3 H3 w3 with ⟨stop,qn⟩ | ⟨go,N,hN,step⟩
 ·refine wpAny_passesOwn hp (Cw (T.done X rfl rfl rfl hc i pins s3 σ3 H3 X.xe I3 (stat fr3) st3 stop) fun r s4 ⟨hr,I4⟩=>?_)
  subst hr;exact wpAny_execs_nil ⟨σ3,H3,I4,qn⟩
 ·refine wpAny_passesOwn hp (Cw (T.item X rfl rfl rfl hc i pins s3 σ3 H3 X.xe I3 (stat fr3) st3 go) fun r s4 ⟨u,hr,h4⟩=>?_)
  subst hr;refine wpAny_passesOwn hp (Cw h4 fun _ s5 ⟨x,H5,I5,r5,y5,st5,fr5⟩=>?_);have I5':=I5.pinned (stat fr5) (T.obj _ _ st5);refine wpAny_passesOwn hp (Cw (hg _ s5 σ3 H5 x u _ I5' r5 (step x H5 y5)) fun _ s6 ⟨σ6,H6,I6,q6⟩=>?_);refine wpAny_passesOwn hp (Cw (hb _ s6 σ6 H6 _ I6 q6) fun f s7 q7=>?_);have again:∀ {σ7:St} {H7:Hp},Inv X (pins++Rl fp s5.heap) σ7 H7 s7->N σ7 H7->∃ m,m<n/\∃ i σ' H',Inv X pins σ' H' s7/\tn i s7.heap/\(∀ b∈fp,H' b=none)/\W i m σ' H':=fun {σ7 H7} I7 n7=>by
   obtain⟨m',hm,w7⟩:=hN σ7 H7 n7;refine⟨m',hm,i+1,σ7,H7,I7.unpinned,T.keep _ _ _ st5 fun b hb o e=>(I7.pin (b,o) (zAR _ (zAR _ (Ic hb e)))).1,fun b hb=>?_,w7⟩;obtain⟨o,e,d⟩:=T.obj _ _ st5 b hb;exact (I7.pin (b,o) (zAR _ (zAR _ (Ic hb e)))).2.1
  cases f with
  | next=>obtain⟨σ7,H7,I7,n7⟩:=q7; exact again I7 n7
  | cont=>obtain⟨σ7,H7,I7,n7⟩:=q7; exact again I7 n7
  | brk=>obtain⟨σ7,H7,I7,q7⟩:=q7; exact⟨σ7,H7,I7.unpinned,q7⟩
  | ret v=>obtain⟨x7,σ7,H7,I7,r7,q7⟩:=q7; exact⟨x7,σ7,H7,I7.unpinned,r7,q7⟩
end
theorem Db {K:zAa} {a:Addr} {xs:List V} {g:TG} {tb:TS} {D:Om} {σ:St} {H:Hp} (Pv:Nat->St->Hp->Prop) (h0:Pv 0 σ H) (hl:∀ i σ H,i<=xs.length->Pv i σ H->SqL K H a xs)
  (hs:∀ i x σ H,xs[i]?=some x->Pv i σ H->g x σ H fun σ2 H2=>tb { D with nx:=Pv (i+1),ct:=Pv (i+1),bk:=D.nx } σ2 H2) (hd:∀ σ H,Pv xs.length σ H->D.nx σ H) :
  ∃ W:Nat->Nat->St->Hp->Prop,(∃ m,W 0 m σ H)/\∀ i m σ H,W i m σ H ->
   ((KM K a).stop i H/\D.nx σ H)\/((KM K a).go i H/\∃ N:St->Hp->Prop,(∀ σ' H',N σ' H'->∃ m',m'<m/\W (i+1) m' σ' H')/\∀ x H',(KM K a).yld i H x H'->g x σ H' fun σ2 H2=>tb { D with nx:=N,ct:=N,bk:=D.nx } σ2 H2):=by
 refine⟨fun i m σ H=>m=xs.length-i/\i<=xs.length/\Pv i σ H,⟨xs.length,by simp,zAD _,h0⟩,?_⟩;rintro i m σ H ⟨rfl,hi,p⟩;have q:=hl i σ H hi p;by_cases hlt:i<xs.length
 ·refine .inr ⟨⟨xs,xs[i],q,by simp [hlt]⟩,Pv (i+1),fun σ' H' p'=>⟨xs.length-(i+1),by lia,rfl,hlt,p'⟩,fun x H' y=>?_⟩
  obtain⟨e,y⟩:=y;subst e;exact hs i x σ _ (y xs q) p
 ·have e:i=xs.length:=by lia
  subst e;exact .inl ⟨⟨xs,q,zAl _⟩,hd σ H p⟩
theorem En {lo:Int} {n:Nat} {g:TG} {tb:TS} {D:Om} {σ:St} {H:Hp} (Pv:Nat->St->Hp->Prop) (h0:Pv 0 σ H)
  (hs:∀ i σ H,i<n->Pv i σ H->g (.int (lo+i)) σ H fun σ2 H2=>tb { D with nx:=Pv (i+1),ct:=Pv (i+1),bk:=D.nx } σ2 H2) (hd:∀ σ H,Pv n σ H->D.nx σ H) :
  ∃ W:Nat->Nat->St->Hp->Prop,(∃ m,W 0 m σ H)/\∀ i m σ H,W i m σ H ->
   ((IR lo n).stop i H/\D.nx σ H)\/((IR lo n).go i H/\∃ N:St->Hp->Prop,(∀ σ' H',N σ' H'->∃ m',m'<m/\W (i+1) m' σ' H')/\∀ x H',(IR lo n).yld i H x H'->g x σ H' fun σ2 H2=>tb { D with nx:=N,ct:=N,bk:=D.nx } σ2 H2):=by
 refine⟨fun i m σ H=>m=n-i/\i<=n/\Pv i σ H,⟨n,by simp,zAD _,h0⟩,?_⟩;rintro i m σ H ⟨rfl,hi,p⟩;by_cases hlt:i<n
 ·refine .inr ⟨hlt,Pv (i+1),fun σ' H' p'=>⟨n-(i+1),by lia,rfl,hlt,p'⟩,fun x H' y=>?_⟩
  obtain⟨e,y⟩:=y;subst e y;exact hs i σ _ hlt p
 ·have e:i=n:=by lia
  subst e;exact .inl ⟨zAl _,hd σ H p⟩
abbrev R2:=V->V->Hp->VK->Prop
def Jm (X:Cx) (f:Value->Value->Sem Value) (r:R2):Prop:=
 ∀ (pins:List (Addr×Obj)) (s:Shared) (σ:St) (H:Hp) (x y:V) (v u:Value) (Q:VK),Inv X pins σ H s->RelV x v->RelV y u->r x y H Q ->
  wpAny (model X.prog X.w) X.A (f v u) (EP X pins σ Q) X.xe s
def NW (X:Cx) (f:Value->Sem Value) (r:V->Hp->VK->Prop):Prop:=
 ∀ (pins:List (Addr×Obj)) (s:Shared) (σ:St) (H:Hp) (x:V) (v:Value) (Q:VK),Inv X pins σ H s->RelV x v->r x H Q ->
  wpAny (model X.prog X.w) X.A (f v) (EP X pins σ Q) X.xe s
def Gc (X:Cx) (f:Value) (r:List V->Hp->VK->Prop):Prop:=
 ∀ (pins:List (Addr×Obj)) (s:Shared) (σ:St) (H:Hp) (xs:List V) (us:List Value) (Q:VK),Inv X pins σ H s->Vals xs us->r xs H Q ->
  wpAny (model X.prog X.w) X.A (call f us) (EP X pins σ Q) X.xe s
def NY (X:Cx) (r:V->Hp->(Bool->Hp->Prop)->Prop):Prop:=
 ∀ (pins:List (Addr×Obj)) (s:Shared) (σ:St) (H:Hp) (x:V) (v:Value) (Q:Bool->Hp->Prop),Inv X pins σ H s->RelV x v->r x H Q ->
  wpAny (model X.prog X.w) X.A (truthy v) (TP X pins σ Q) X.xe s
def MY (r:R2) (ta tb:TE):TE:=fun σ H Q=>ta σ H fun x H1=>tb σ H1 fun y H2=>r x y H2 Q
def PY (r:V->Hp->VK->Prop) (ta:TE):TE:=fun σ H Q=>ta σ H fun x H1=>r x H1 Q
def rI (C:Int->Int->Prop) (g:Int->Int->V):R2:=fun x y H Q=>∃ i j,x = .int i/\y = .int j/\C i j/\Q (g i j) H
def HX (g:Int->Int->V):R2:=fun x y H Q=>∃ i j,x = .int i/\y = .int j/\Q (g i j) H
def rU (g:Int->V):V->Hp->VK->Prop:=fun x H Q=>∃ i,x = .int i/\Q (g i) H
section
variable {X:Cx} {a b c:Expr} {ta tb tc:TE} {pos:Pos}
theorem IO (ha:PE X a ta) (hb:PE X b tb) {pins:List (Addr×Obj)} {s:Shared} {σ:St} {H:Hp} {R:V->V->Hp->Prop} (I:Inv X pins σ H s)
  (h:ta σ H fun x H1=>tb σ H1 fun y H2=>R x y H2) {Q:Value->Shared->Prop} {f:Value->Value->Sem Value}
  (hf:∀ v u s2 x y H2,Inv X pins σ H2 s2->RelV x v->RelV y u->R x y H2->wpAny (model X.prog X.w) X.A (f v u) Q X.xe s2) :
  wpAny (model X.prog X.w) X.A (eval a X.env) (fun v s₁ => wpAny (model X.prog X.w) X.A (eval b X.env) (fun u s₂ => wpAny (model X.prog X.w) X.A (f v u) Q X.xe s₂) X.xe s₁) X.xe s:=by
 refine Cw (ha pins s σ H _ I h) fun v s1 ⟨x,H1,I1,r1,q1⟩=>?_;refine Cw (hb pins s1 σ H1 _ I1 q1) fun u s2 ⟨y,H2,I2,r2,q2⟩=>?_;exact hf v u s2 x y H2 I2 r1 r2 q2
theorem Bc {op:Operator} {r:R2} (ho:Jm X (binaryOp op) r) (ha:PE X a ta) (hb:PE X b tb):PE X (.BinOp a op b pos) (MY r ta tb):=by
 intro pins s σ H Q I h;exact wpAny_BinOp (IO ha hb I h fun v u s2 x y H2 I2 rx ry q=>ho pins s2 σ H2 x y v u Q I2 rx ry q)
theorem Yu {op:UnaryOp} {r:V->Hp->VK->Prop} (ho:NW X (unaryOp op) r) (ha:PE X a ta):PE X (.UnaryOp op a pos) (PY r ta):=by
 intro pins s σ H Q I h;exact UnaryOp_ (Cw (ha pins s σ H _ I h) fun v s1 ⟨x,H1,I1,r1,q1⟩=>ho pins s1 σ H1 x v Q I1 r1 q1)
theorem MX {f:Value->Value->Sem Value} {C:Int->Int->Prop} {g:Int->Int->Int}
  (rule:∀ (i j:Int) (t u:Tok) (s:Shared) (Q:Value->Shared->Prop) (E:Value->Shared->Prop),C i j->Q (.int (g i j) s.toks) { s with toks:=s.toks+1 }->wpAny (model X.prog X.w) X.A (f (.int i t) (.int j u)) Q E s) :
  Jm X f (rI C fun i j=>.int (g i j)):=by
 intro pins s σ H x y v u Q I rx ry h;obtain⟨i,j,rfl,rfl,hc,q⟩:=h;obtain⟨t,rfl⟩:=rx;obtain⟨t',rfl⟩:=ry;exact rule i j t t' s _ _ hc ⟨.int (g i j),H,I.tok _,⟨_,rfl⟩,q⟩
theorem KS {f:Value->Value->Sem Value} {g:Int->Int->Int}
  (rule:∀ (i j:Int) (t u:Tok) (s:Shared) (Q:Value->Shared->Prop) (E:Value->Shared->Prop),Q (.int (g i j) s.toks) { s with toks:=s.toks+1 }->wpAny (model X.prog X.w) X.A (f (.int i t) (.int j u)) Q E s) :
  Jm X f (HX fun i j=>.int (g i j)):=by
 intro pins s σ H x y v u Q I rx ry h;obtain⟨i,j,rfl,rfl,q⟩:=h;obtain⟨t,rfl⟩:=rx;obtain⟨t',rfl⟩:=ry;exact rule i j t t' s _ _ ⟨.int (g i j),H,I.tok _,⟨_,rfl⟩,q⟩
theorem GJ {f:Value->Value->Sem Value} {g:Int->Int->Bool}
  (rule:∀ (i j:Int) (t u:Tok) (s:Shared) (Q:Value->Shared->Prop) (E:Value->Shared->Prop),Q (.bool (g i j)) s->wpAny (model X.prog X.w) X.A (f (.int i t) (.int j u)) Q E s) :
  Jm X f (HX fun i j=>.bl (g i j)):=by
 intro pins s σ H x y v u Q I rx ry h;obtain⟨i,j,rfl,rfl,q⟩:=h;obtain⟨t,rfl⟩:=rx;obtain⟨t',rfl⟩:=ry;exact rule i j t t' s _ _ ⟨.bl (g i j),H,I,rfl,q⟩
def OT (i j:Int):Prop:=0<j/\j<1073741824
def OY (i j:Int):Prop:=0<=j/\j<=1000000/\i.natAbs<2^64
def CMul (i j:Int):Prop:=(-(2^64)<i/\i<2^64)\/(-(2^64)<j/\j<2^64)
theorem CMul.ok {i j:Int} (h:CMul i j):IntMulOk i j:=by
 rcases h with ⟨h1,h2⟩ | ⟨h1,h2⟩
 ·exact .of_left (intBits_le_64 h1 h2)
 ·exact .of_right (intBits_le_64 h1 h2)
theorem Cm:Jm X (binaryOp .Add) (HX fun i j=>.int (i+j)):=KS fun _ _ _ _ _ _ _ q=>add_int q
theorem Lu:Jm X (binaryOp .Sub) (HX fun i j=>.int (i-j)):=KS fun _ _ _ _ _ _ _ q=>sub_int q
theorem Dy:Jm X (binaryOp .Mult) (rI CMul fun i j=>.int (i*j)):=MX fun _ _ _ _ _ _ _ hc q=>mul_int q hc.ok
theorem By:Jm X (binaryOp .FloorDiv) (rI OT fun i j=>.int (i/j)):=MX fun i j _ _ _ _ _ hc q=>by
 have h1:(0:Int)<j:=hc.1;have h2:j<1073741824:=hc.2;exact floordiv_int (by lia) (by rw[Int.fdiv_eq_ediv_of_nonneg i (by lia)]; exact q) (.inl (PyProof.noPylong_small (by lia)))
theorem Bx:Jm X (binaryOp .Mod) (rI (fun _ j=>0<j) fun i j=>.int (i%j)):=MX fun i j _ _ _ _ _ hc q=>by
 have h1:(0:Int)<j:=hc;exact mod_int' (by lia) (by rw[Int.fmod_eq_emod_of_nonneg i (by lia)]; exact q)
theorem Qx:Jm X (binaryOp .Pow) (rI OY fun i j=>.int (i^j.toNat)):=MX fun _ _ _ _ _ _ _ hc q=>pow_int_small hc.1 hc.2.1 hc.2.2 q
theorem QH {f:Value->Sem Value} {g:Int->Int}
  (rule:∀ (i:Int) (t:Tok) (s:Shared) (Q:Value->Shared->Prop) (E:Value->Shared->Prop),Q (.int (g i) s.toks) { s with toks:=s.toks+1 }->wpAny (model X.prog X.w) X.A (f (.int i t)) Q E s) :
  NW X f (rU fun i=>.int (g i)):=by
 intro pins s σ H x v Q I rx h;obtain⟨i,rfl,q⟩:=h;obtain⟨t,rfl⟩:=rx;exact rule i t s _ _ ⟨.int (g i),H,I.tok _,⟨_,rfl⟩,q⟩
theorem Rg:NW X (unaryOp .USub) (rU fun i=>.int (-i)):=QH fun _ _ _ _ _ q=>neg_int q
def MM:V->V->Bool
 | .non,.non=>true | .non,.int _=>true | .int _,.non=>true | .non,.bl _=>true | .bl _,.non=>true | .non,.str _=>true | .str _,.non=>true
 | .int _,.int _=>true | .bl _,.bl _=>true | .str _,.str _=>true | .byt _,.byt _=>true
 | .int _,.str _=>true | .str _,.int _=>true | .bl _,.str _=>true | .str _,.bl _=>true
 | _,_=>false
def QJ:R2:=fun x y H Q=>MM x y=true/\Q (.bl (decide (x=y))) H
def QE:R2:=fun x y H Q=>MM x y=true/\Q (.bl (!decide (x=y))) H
theorem V7 {i j:Int}:decide (V.int i=V.int j)=(i==j):=by
 rw[Bool.eq_iff_iff];simp
theorem DR {i j:Bool}:decide (V.bl i=V.bl j)=(i==j):=by
 rw[Bool.eq_iff_iff];simp
theorem P3 {i j:Str}:decide (V.str i=V.str j)=(i==j):=by
 rw[Bool.eq_iff_iff];simp
theorem P5 {i j:Array UInt8}:decide (V.byt i=V.byt j)=(i.toList==j.toList):=by
 rw[Bool.eq_iff_iff];cases i;cases j;simp
theorem Cg {pins:List (Addr×Obj)} {σ:St} {H:Hp} {s:Shared} {Q:VK} {k k':Bool} (I:Inv X pins σ H s) (q:Q (.bl k) H) (e:k=k'):EP X pins σ Q (.bool k') s:=by
 subst e;exact⟨.bl k,H,I,rfl,q⟩
theorem Di:Jm X (compareOp .Eq) QJ:=by
 intro pins s σ H x y v u Q I rx ry h;obtain⟨hs,q⟩:=h;cases x with
 | non=>
  cases rx
  cases y with
  | non=>cases ry; exact PySem.EqNone.eq_none_none (Cg I q (by simp))
  | bl j=>cases ry; exact PySem.EqNone.eq_none_bool (Cg I q (by simp))
  | int j=>obtain⟨t',rfl⟩:=ry; exact PySem.EqNone.eq_none_int (Cg I q (by simp))
  | str j=>obtain⟨t',rfl⟩:=ry; exact PySem.EqNone.eq_none_str (Cg I q (by simp))
  | _=>exact absurd (show false=true from hs) zAm
 | bl i=>
  cases rx
  cases y with
  | non=>cases ry; exact PySem.EqNone.eq_bool_none (Cg I q (by simp))
  | bl j=>cases ry; exact eq_bool (Cg I q DR)
  | str j=>obtain⟨t',rfl⟩:=ry; exact PySem.EqMixed.eq_bool_str (Cg I q (by simp))
  | _=>exact absurd (show false=true from hs) zAm
 | int i=>
  obtain⟨t,rfl⟩:=rx;cases y with
  | non=>cases ry; exact PySem.EqNone.eq_int_none (Cg I q (by simp))
  | int j=>obtain⟨t',rfl⟩:=ry; exact eq_int (Cg I q V7)
  | str j=>obtain⟨t',rfl⟩:=ry; exact PySem.EqMixed.eq_int_str (Cg I q (by simp))
  | _=>exact absurd (show false=true from hs) zAm
 | str i=>
  obtain⟨t,rfl⟩:=rx;cases y with
  | non=>cases ry; exact PySem.EqNone.eq_str_none (Cg I q (by simp))
  | bl j=>cases ry; exact PySem.EqMixed.eq_str_bool (Cg I q (by simp))
  | int j=>obtain⟨t',rfl⟩:=ry; exact PySem.EqMixed.eq_str_int (Cg I q (by simp))
  | str j=>obtain⟨t',rfl⟩:=ry; exact eq_str (Cg I q P3)
  | _=>exact absurd (show false=true from hs) zAm
 | byt i=>
  obtain⟨t,rfl⟩:=rx;cases y with
  | byt j=>obtain⟨t',rfl⟩:=ry; exact PySem.W.eq_bytes (Cg I q P5)
  | _=>exact absurd (show false=true from hs) zAm
 | _=>cases y <;> exact absurd (show false=true from hs) zAm
theorem HR:Jm X (compareOp .NotEq) QE:=by
 intro pins s σ H x y v u Q I rx ry h;obtain⟨hs,q⟩:=h;cases x with
 | non=>
  cases rx
  cases y with
  | non=>cases ry; exact PySem.EqNone.ne_none_none (Cg I q (by simp))
  | bl j=>cases ry; exact PySem.EqNone.ne_none_bool (Cg I q (by simp))
  | int j=>obtain⟨t',rfl⟩:=ry; exact PySem.EqNone.ne_none_int (Cg I q (by simp))
  | str j=>obtain⟨t',rfl⟩:=ry; exact PySem.EqNone.ne_none_str (Cg I q (by simp))
  | _=>exact absurd (show false=true from hs) zAm
 | bl i=>
  cases rx
  cases y with
  | non=>cases ry; exact PySem.EqNone.ne_bool_none (Cg I q (by simp))
  | bl j=>cases ry; exact ne_bool (Cg I q (congrArg not DR))
  | str j=>obtain⟨t',rfl⟩:=ry; exact PySem.EqMixed.ne_bool_str (Cg I q (by simp))
  | _=>exact absurd (show false=true from hs) zAm
 | int i=>
  obtain⟨t,rfl⟩:=rx;cases y with
  | non=>cases ry; exact PySem.EqNone.ne_int_none (Cg I q (by simp))
  | int j=>obtain⟨t',rfl⟩:=ry; exact ne_int (Cg I q (congrArg not V7))
  | str j=>obtain⟨t',rfl⟩:=ry; exact PySem.EqMixed.ne_int_str (Cg I q (by simp))
  | _=>exact absurd (show false=true from hs) zAm
 | str i=>
  obtain⟨t,rfl⟩:=rx;cases y with
  | non=>cases ry; exact PySem.EqNone.ne_str_none (Cg I q (by simp))
  | bl j=>cases ry; exact PySem.EqMixed.ne_str_bool (Cg I q (by simp))
  | int j=>obtain⟨t',rfl⟩:=ry; exact PySem.EqMixed.ne_str_int (Cg I q (by simp))
  | str j=>obtain⟨t',rfl⟩:=ry; exact ne_str (Cg I q (congrArg not P3))
  | _=>exact absurd (show false=true from hs) zAm
 | byt i=>
  obtain⟨t,rfl⟩:=rx;cases y with
  | byt j=>obtain⟨t',rfl⟩:=ry; exact PySem.W.ne_bytes (Cg I q (congrArg not P5))
  | _=>exact absurd (show false=true from hs) zAm
 | _=>cases y <;> exact absurd (show false=true from hs) zAm
theorem Fk:Jm X (compareOp .Lt) (HX fun i j=>.bl (decide (i<j))):=GJ fun _ _ _ _ _ _ _ q=>lt_int q
theorem Oz:Jm X (compareOp .LtE) (HX fun i j=>.bl (decide (i<=j))):=GJ fun _ _ _ _ _ _ _ q=>le_int q
theorem Vt:Jm X (compareOp .Gt) (HX fun i j=>.bl (decide (j<i))):=GJ fun _ _ _ _ _ _ _ q=>gt_int q
theorem MG:Jm X (compareOp .GtE) (HX fun i j=>.bl (decide (j<=i))):=GJ fun _ _ _ _ _ _ _ q=>ge_int q
theorem Qu:Jm X (compareOp .Is) (fun x y H Q=>y = .non/\Q (.bl (decide (x = .non))) H):=by
 intro pins s σ H x y v u Q I rx ry h;obtain⟨rfl,q⟩:=h;cases ry;refine is_none_gen (Cg I q ?_);cases x <;> first
  | (cases rx; rfl)
  | (obtain⟨t,rfl⟩:=rx; rfl)
theorem V0:Jm X (compareOp .IsNot) (fun x y H Q=>y = .non/\Q (.bl (!decide (x = .non))) H):=by
 intro pins s σ H x y v u Q I rx ry h;obtain⟨rfl,q⟩:=h;cases ry;refine isnot_none_gen (Cg I q ?_);cases x <;> first
  | (cases rx; rfl)
  | (obtain⟨t,rfl⟩:=rx; rfl)
theorem Bm (b:Expr) {op:CmpOp} (h:op ≠ .In:=by decide) (h2:op ≠ .NotIn:=by decide):behindInMarks op b=false:=by
 have e1:(op==CmpOp.In)=false:=by cases op <;> first | rfl | exact absurd rfl h
 have e2:(op==CmpOp.NotIn)=false:=by cases op <;> first | rfl | exact absurd rfl h2
 cases b <;> simp [behindInMarks,e1,e2]
theorem Ga {op:CmpOp} {r:R2} (ho:Jm X (compareOp op) r) (ha:PE X a ta) (hb:PE X b tb) (hm:behindInMarks op b=false):PE X (.Compare a [op] [b] pos) (MY r ta tb):=by
 intro pins s σ H Q I h;exact wpAny_Compare1 (IO ha hb I h fun v u s2 x y H2 I2 rx ry q=>ho pins s2 σ H2 x y v u Q I2 rx ry q) hm
def LT (t:TE):TT:=fun σ H Q=>t σ H fun x H'=>∃ k,x = .bl k/\Q k H'
theorem Bj {op:CmpOp} {r:R2} (ho:Jm X (compareOp op) r) (ha:PE X a ta) (hb:PE X b tb) (hm:behindInMarks op b=false):PT X (.Compare a [op] [b] pos) (LT (MY r ta tb)):=by
 intro pins s σ H Q I h;refine wpAny_isTrue_Compare1 (Cw (ha pins s σ H _ I h) fun v s1 ⟨x,H1,I1,r1,q1⟩=>Cw (hb pins s1 σ H1 _ I1 q1) fun u s2 ⟨y,H2,I2,r2,q2⟩=>
  Cw (ho pins s2 σ H2 x y v u _ I2 r1 r2 q2) fun c s3 ⟨z,H3,I3,r3,k,e,q3⟩=>?_) hm
 subst e;cases r3;exact wpAny_truthy_bool ⟨H3,I3,q3⟩
def IJ (r r':R2) (ta tb tc:TE):TE:=fun σ H Q=>ta σ H fun x H1=>tb σ H1 fun y H2=>r x y H2 fun z H3=>∃ k,z = .bl k /\
 (if k=true then tc σ H3 fun w' H4=>r' y w' H4 Q else Q (.bl false) H3)
theorem Sr {op op':CmpOp} {r r':R2} (ho:Jm X (compareOp op) r) (ho':Jm X (compareOp op') r') (ha:PE X a ta) (hb:PE X b tb) (hc:PE X c tc)
  (hm:lastMarks [op,op'] [b,c]=false:=by with_unfolding_all rfl):PE X (.Compare a [op,op'] [b,c] pos) (IJ r r' ta tb tc):=by
 intro pins s σ H Q I h;refine Compare_chain (Cw (ha pins s σ H _ I h) fun v s1 ⟨x,H1,I1,r1,q1⟩=>chain_link (Cw (hb pins s1 σ H1 _ I1 q1) fun u s2 ⟨y,H2,I2,r2,q2⟩=>
  Cw (ho pins s2 σ H2 x y v u _ I2 r1 r2 q2) fun d s3 ⟨z,H3,I3,r3,k,e,q3⟩=>?_)) hm
 subst e;cases r3;refine wpAny_truthy_bool ?_;cases k with
 | false=>exact ite_ff ⟨.bl false,H3,I3,rfl,q3⟩
 | true=>exact ite_tt (chain_last (Cw (hc pins s3 σ H3 _ I3 q3) fun w' s4 ⟨z',H4,I4,r4,q4⟩=>ho' pins s4 σ H4 y z' u w' Q I4 r2 r4 q4))
def IM (K:zAa) (x:V) (H:Hp) (k:Bool):Prop:=
 match x with
 | .non=>k=false
 | .bl b=>k=b
 | .int i=>k=(i != 0)
 | .str y=>y.length<=sizeLine/\k=((y.length:Int) != 0)
 | .byt y=>y.size<=sizeLine/\k=((y.size:Int) != 0)
 | .ref p=>(∃ xs,SqL K H p xs/\k = !xs.isEmpty)\/(∃ xs,SqT K H p xs/\k = !xs.isEmpty)\/∃ kvs,H p=some (.dK kvs)/\k = !kvs.isEmpty
 | _=>False
theorem G4 {κ:Type} {kvs:List (κ×V)} {vs:List (κ×Value)} (r:KV kvs vs):(!vs.isEmpty) = !kvs.isEmpty:=by
 cases r <;> rfl
theorem Se {xs:List V} {its:List Value} (r:Vals xs its):(!its.toArray.isEmpty) = !xs.isEmpty:=by
 cases r <;> simp
theorem Lj:(sizeLine:Nat)<2^63:=by rw[zCE]; decide
theorem BR:NY X (fun x H Q=>∃ k,IM X.K x H k/\Q k H):=by
 intro pins s σ H x v Q I rx h;obtain⟨k,e,q⟩:=h;have hl:=Lj;have hs:sizeLine=16777216:=zCE;cases x with
 | non=>
  cases rx
  have e':k=false:=e;subst e';exact truthy_none ⟨H,I,q⟩
 | bl b=>
  cases rx
  have e':k=b:=e;subst e';exact wpAny_truthy_bool ⟨H,I,q⟩
 | int i=>
  obtain⟨t,rfl⟩:=rx;have e':k=(i != 0):=e;subst e';exact PySem.P.truthy_int ⟨H,I,q⟩
 | str y=>
  obtain⟨t,rfl⟩:=rx;obtain⟨hy,e'⟩:y.length<=sizeLine/\k=((y.length:Int) != 0):=e;subst e';exact PySem.P.truthy_str (by lia) ⟨H,I.tok _,q⟩
 | byt y=>
  obtain⟨t,rfl⟩:=rx;obtain⟨hy,e'⟩:y.size<=sizeLine/\k=((y.size:Int) != 0):=e;subst e';exact PySem.W.truthy_bytes (by lia) ⟨H,I.tok _,q⟩
 | ref p=>
  cases rx
  have e':(∃ xs,SqL X.K H p xs/\k = !xs.isEmpty)\/(∃ xs,SqT X.K H p xs/\k = !xs.isEmpty)\/∃ kvs,H p=some (.dK kvs)/\k = !kvs.isEmpty:=e;rcases e' with ⟨xs,hx,e'⟩ | ⟨xs,hx,e'⟩ | ⟨kvs,hx,e'⟩
  ·subst e'
   obtain⟨its,r,pl,hz⟩:=I.list hx;have hlen:=r.length;exact wpAny_truthy_list pl.isList (by simp only [zAh]; lia) ⟨H,I.tok _,by rw[Se r]; exact q⟩
  ·subst e'
   obtain⟨its,r,pl,hz⟩:=I.tuple hx;have hlen:=r.length;exact truthy_tuple pl (by simp only [zAh]; lia) ⟨H,I.tok _,by rw[Se r]; exact q⟩
  ·subst e'
   obtain⟨hz,hS,vs,r,m⟩:kvs.length<=sizeLine/\(p==sysModules)=false/\∃ vs,KV kvs vs/\s.heap.DictOf (Dl X.prog X.w) p vs:=I.hok p _ hx;have hlen:kvs.length=vs.length:=Paired.length r;exact wpAny_truthy_dict hS m (by lia) ⟨H,I.tok _,by rw[G4 r]; exact q⟩
 | _=>exact (show False from e).elim
theorem LI (ha:PE X a ta) (he:∀ whole,isTrue a X.env whole=(do let v <- whole; standAt a.pos; holding [v] (truthy v))) :
  PT X a (fun σ H Q=>ta σ H fun x H'=>∃ k,IM X.K x H' k/\Q k H'):=by
 intro pins s σ H Q I h;exact isTrue_plain (Cw (ha pins s σ H _ I h) fun v s1 ⟨x,H1,I1,r1,q1⟩=>BR pins s1 σ H1 x v Q I1 r1 q1) (he _)
theorem Gf:Jm X (binaryOp .Add) (fun x y H Q=>∃ i j,x = .str i/\y = .str j/\i.length+j.length<=sizeLine/\Q (.str (i++j)) H):=by
 intro pins s σ H x y v u Q I rx ry h;obtain⟨i,j,rfl,rfl,hz,q⟩:=h;obtain⟨t,rfl⟩:=rx;obtain⟨t',rfl⟩:=ry;exact add_str (fun t' tk=>⟨.str (i++j),H,I.tok _,⟨_,rfl⟩,q⟩) hz
theorem Jb {x:V} {us:List Value} (r:Vals [x] us):∃ u,us=[u]/\RelV x u:=by
 cases r with
 | cons r1 r2=>cases r2; exact⟨_,rfl,r1⟩
theorem EW {x y:V} {us:List Value} (r:Vals [x,y] us):∃ u w',us=[u,w']/\RelV x u/\RelV y w':=by
 cases r with
 | cons r1 r2=>
  cases r2 with
  | cons r3 r4=>cases r4; exact⟨_,_,rfl,r1,r3⟩
theorem Hu (hc:X.calm=true):Gc X (.builtin "max") (fun xs H Q=>∃ i j,xs=[.int i,.int j]/\Q (.int (if j>i then j else i)) H):=by
 intro pins s σ H xs us Q I r h;obtain⟨i,j,rfl,q⟩:=h;obtain⟨u,w',rfl,⟨t,rfl⟩,⟨t',rfl⟩⟩:=EW r;refine max_two_ints (I.ok.hd hc) fun h' tk k=>⟨_,H,I.kept k,?_,q⟩;by_cases hj:j>i
 ·rw[if_pos hj,if_pos hj]; exact⟨_,rfl⟩
 ·rw[if_neg hj,if_neg hj]; exact⟨_,rfl⟩
theorem Hw (hc:X.calm=true):Gc X (.builtin "min") (fun xs H Q=>∃ i j,xs=[.int i,.int j]/\Q (.int (if j<i then j else i)) H):=by
 intro pins s σ H xs us Q I r h;obtain⟨i,j,rfl,q⟩:=h;obtain⟨u,w',rfl,⟨t,rfl⟩,⟨t',rfl⟩⟩:=EW r;refine min_two_ints (I.ok.hd hc) fun h' tk k=>⟨_,H,I.kept k,?_,q⟩;by_cases hj:j<i
 ·rw[if_pos hj,if_pos hj]; exact⟨_,rfl⟩
 ·rw[if_neg hj,if_neg hj]; exact⟨_,rfl⟩
theorem AF:Gc X (.type "int") (fun xs H Q=>(∃ i,xs=[.int i]/\Q (.int i) H)\/∃ k,xs=[.bl k]/\Q (.int (if k then 1 else 0)) H):=by
 intro pins s σ H xs us Q I r h;rcases h with ⟨i,rfl,q⟩ | ⟨k,rfl,q⟩
 ·obtain⟨u,rfl,t,rfl⟩:=Jb r
  exact call_int_int ⟨.int i,H,I,⟨_,rfl⟩,q⟩
 ·obtain⟨u,rfl,r1⟩:=Jb r
  cases r1
  exact call_int_bool ⟨.int (if k then 1 else 0),H,I.tok _,⟨_,rfl⟩,q⟩
end
structure ObjM (h:Heap) (x dx C:Addr) (mA:Str->Option Value):Prop where
 obj:h.get? x=some (zBa C dx)
 ns:h.Ns1 dx mA
 ne:dx≠x
set_option tactic.hygienic true in
theorem W9 {h:Heap} {dx:Addr} {mA:Str->Option Value} (n:h.Ns1 dx mA):∃ od,h.get? dx=some od/\∀ name,PySem.W.lookIn name od=some (mA name):=by
 obtain⟨o,es,ep,ho,hd,hk,_,hm⟩:=n;refine⟨o,ho,fun name=>?_⟩;have e:=hm name;unfold nsFind findBy at e;rw[<- Array.find?_toList] at e;unfold PySem.W.lookIn;rw[hd]
 dsimp only
 split
 ·rename_i y q
  rw[q] at e;exact congrArg some e
 ·rename_i q
  rw[q] at e;have a:es.toList.any (·.refKey)=false:=by
   rw[List.any_eq_false];intro y hy;obtain⟨z,t,hkey⟩:=hk y (Array.mem_toList_iff.mp hy);simp [DictEntry.refKey,hkey]
  have a':¬ es.toList.any (·.refKey)=true:=by rw[a]; exact zAm
  rw[if_neg a'];exact congrArg some e
theorem ObjM.look {h:Heap} {x dx C:Addr} {mA:Str->Option Value} (I:ObjM h x dx C mA):∃ od,PySem.W.InstAt h x (zBa C dx) C (some od)/\∀ name,PySem.W.lookIn name od=some (mA name):=
 let ⟨od,ho,hl⟩:=W9 I.ns
 ⟨od,⟨I.obj,rfl,rfl,ho⟩,hl⟩
section
variable {prog:Program} {w:World} {A:Around} {E:Value->Shared->Prop} {s:Shared} {K:zAa} {x dx C f:Addr} {mA:Str->Option Value} {name:Str} {v:Value}
theorem GA {expr:Bool} {Q:Value->Shared->Prop} (X:K.In s.heap) (I:ObjM s.heap x dx C mA) (hg:zCc K C name=true) (hh:zCu K C=true)
  (ha:zAc K (.ref C) name=some none) (hv:mA name=some v) (hv':PySem.W.handedIn v=true) (h:Q v { s with toks:=s.toks+1 }) :
  wpAny (model prog w) A (getAttr (.ref x) name expr) Q E s:=by
 obtain⟨od,J,hl⟩:=I.look;exact PySem.W.get_value X J (PySem.W.plainGet_of hg).1 (PySem.W.findObj_own hh ha rfl (by rw[hl,hv])) hv' h
theorem DM {pl:Sem Bool} {Q:Value×List Value->Shared->Prop} (X:K.In s.heap) (I:ObjM s.heap x dx C mA) (hg:zCc K C name=true)
  (hf:zAc K (.ref C) name=some (some (.ref f))) (ht:zCp K (.ref f)=true) (hv:mA name=none) (h:Q (.ref f,[.ref x]) s) :
  wpAny (model prog w) A (getMethod (.ref x) name pl) Q E s:=by
 obtain⟨od,J,hl⟩:=I.look;exact PySem.W.method_fn X J (PySem.W.plainGet_of hg).1 (PySem.W.plainGet_of hg).2 hf (beq_iff_eq.mp ht) (by show (PySem.W.lookIn name od).map (·.isSome)=some false; rw[hl,hv]; rfl) h
theorem HA {ns:List Str} {Q:Unit->Shared->Prop} (X:K.In s.heap) (I:ObjM s.heap x dx C mA)
  (hs:zAc K (.ref C) "__setattr__" = some (some (.builtin "object.__setattr__"))) (hp:PySem.W.plainOver K C=true) (ht:PySem.W.takerIn K C name=some none) (hh:zCu K C=true)
  (hw:PySem.Within mA ns) (hsz:ns.length<=sizeLine)
  (h:∀ h',ObjM h' x dx C (fun y=>if y=name then some v else mA y)->zAU dx s.heap h'->Q () { s with heap:=h',toks:=s.toks+2 }) :
  wpAny (model prog w) A (setAttr (.ref x) name v) Q E s:=by
 obtain⟨od,J,hl⟩:=I.look;refine PySem.W.set_plain X J hs (PySem.W.osa_open (s:={ s with toks:=s.toks+1 }) (r:=none) X J hp ht fun b=>?_);obtain⟨cd,hc,hd'⟩:=PySem.W.any_some hh;have hx:s.heap.get? x=some ⟨.ref C,some dx,.plain,#[]⟩:=I.obj;refine zCC (zCD (zCC (zCC (wpAny_loadPart hx (zCC (PySem.W.Looks.here (s:={ s with toks:=s.toks+1 }) (PySem.W.looks_clsIn X hc) ?_))))));rw[hd'];refine zCD (a:=some dx) (zCC (zCD (zCC ?_)));refine wpAny_nsSet1 (s:={ s with toks:=s.toks+1 }) I.ns fun h' hn2 hs2=>?_;obtain⟨oD,esD,epD,hoD,hdD,hcD⟩:=hn2.count (PySem.Within.cons name v hw);refine zCC (wpAny_lookBehind hoD (by rw[hdD]; exact pastItsLine_dict (zAG hcD (by rw[zAg]; lia))) ?_);exact zCD (h _ ⟨(hs2.2 _ (Ne.symm I.ne)).trans I.obj,hn2,I.ne⟩ hs2)
theorem CT {R:Result->Shared->Prop} {vs:List Value} {kw:List (Str×Value)} (X:K.In s.heap) (hm:zCm K C=true)
  (hi:zAc K (.ref C) "__init__" = some (some (.ref f))) (hf:PySem.W.typeIn K (.ref f)=some (.type "function"))
  (h:codeAny (model prog w) (A.under (.builtin "type.__call__" ⟨.ref C::vs,kw⟩)) (.call (.ref f) ⟨.ref (s.heap.objs.size+1)::vs,kw⟩) (PySem.W.InitBack (s.heap.objs.size+1) R)
   { s with heap:=(s.heap.push zAS).push (zBa C s.heap.objs.size) }) :
  codeAny (model prog w) A (.call (.ref C) ⟨vs,kw⟩) R s:=by
 obtain⟨hh,g,d,t,os⟩:=s;exact PySem.W.make_core (PySem.W.makes_of X hm) (PySem.W.looks_findIn X hi) (fun self=>PySem.W.bind_fn X self hf) (.inl rfl) h
theorem AI {R:Result->Shared->Prop} (X:K.In s.heap) (hm:zCm K C=true)
  (hi:zAc K (.ref C) "__init__" = some (some (.builtin "object.__init__")))
  (hb:∀ self,PySem.W.Looks (model prog w) s.heap (bindSpecial (.builtin "object.__init__") self) (.builtin "object.__init__",[self]))
  (h:codeAny (model prog w) (A.under (.builtin "type.__call__" ⟨[.ref C],[]⟩)) (.call (.builtin "object.__init__") ⟨[.ref (s.heap.objs.size+1)],[]⟩) (PySem.W.InitBack (s.heap.objs.size+1) R)
   { s with heap:=(s.heap.push zAS).push (zBa C s.heap.objs.size) }) :
  codeAny (model prog w) A (.call (.ref C) ⟨[],[]⟩) R s:=by
 obtain⟨hh,g,d,t,os⟩:=s;exact PySem.W.make_core (PySem.W.makes_of X hm) (PySem.W.looks_findIn X hi) hb (.inr ⟨rfl,rfl⟩) h
end
def Bs (f:Str) (v:V):List (Str×V)->List (Str×V)
 | []=>[(f,v)]
 | (g,x)::r=>if g=f then (g,v)::r else (g,x)::Bs f v r
theorem Bi (f g:Str) (v:V):∀ fs:List (Str×V),(Bs f v fs).lookup g=if g=f then some v else fs.lookup g
 | []=>by
  show zCj g [(f,v)]=_;by_cases h:g=f
  ·have hb:(g==f)=true:=beq_iff_eq.mpr h
   simp only [zCj,hb,if_pos h]
  ·have hb:(g==f)=false:=beq_eq_false_iff_ne.mpr h
   simp only [zCj,hb,if_neg h]
 | (k,x)::r=>by
  have ih:=Bi f g v r;rw[show Bs f v ((k,x)::r)=(if k=f then (k,v)::r else (k,x)::Bs f v r) from rfl];by_cases hk:k=f
  ·rw[if_pos hk]
   by_cases h:g=k
   ·have hb:(g==k)=true:=beq_iff_eq.mpr h
    simp only [zCj,hb,if_pos (h.trans hk)]
   ·have hb:(g==k)=false:=beq_eq_false_iff_ne.mpr h
    simp only [zCj,hb,if_neg (fun e:g=f=>h (e.trans hk.symm))]
  ·rw[if_neg hk]
   by_cases h:g=k
   ·have hb:(g==k)=true:=beq_iff_eq.mpr h
    simp only [zCj,hb,if_neg (fun e:g=f=>hk (h.symm.trans e))]
   ·have hb:(g==k)=false:=beq_eq_false_iff_ne.mpr h
    simp only [zCj,hb];exact ih
theorem Oj (f:Str) (v:V):∀ fs:List (Str×V),f∈(Bs f v fs).map (·.1)/\∀ g,g∈fs.map (·.1)->g∈(Bs f v fs).map (·.1)
 | []=>⟨by simp [Bs],fun g h=>by simp at h⟩
 | (k,x)::r=>by
  obtain⟨i1,i2⟩:=Oj f v r;rw[show Bs f v ((k,x)::r)=(if k=f then (k,v)::r else (k,x)::Bs f v r) from rfl];by_cases hk:k=f
  ·rw[if_pos hk]
   subst hk;exact⟨by simp,fun g h=>by simpa using h⟩
  ·rw[if_neg hk]
   refine⟨?_,fun g h=>?_⟩
   ·rw[zAH]
    exact zAf _ i1
   ·rw[zAH] at h ⊢
    rcases zAn.mp h with e | e
    ·exact zAn.mpr (.inl e)
    ·exact zAf _ (i2 g e)
theorem Pc (f:Str) (v:V):∀ fs:List (Str×V),(Bs f v fs).length<=fs.length+1
 | []=>by simp [Bs]
 | (k,x)::r=>by
  have ih:=Pc f v r;rw[show Bs f v ((k,x)::r)=(if k=f then (k,v)::r else (k,x)::Bs f v r) from rfl];by_cases hk:k=f
  ·rw[if_pos hk,zAg,zAg]; lia
  ·rw[if_neg hk,zAg,zAg]; lia
theorem RelO.some_of {v:V} {o:Option Value} (r:RelO (some v) o):∃ u,o=some u/\RelV v u:=by
 cases o with
 | none=>exact (show False from r).elim
 | some u=>exact⟨u,rfl,r⟩
theorem RelO.none_of {o:Option Value} (r:RelO none o):o=none:=by
 cases o with
 | none=>rfl
 | some u=>exact (show False from r).elim
theorem Z4 {v:V} {u:Value} (r:RelV v u):PySem.W.handedIn u=true:=by
 cases v with
 | non=>cases (show u=Value.none from r); rfl
 | bl b=>cases (show u=Value.bool b from r); rfl
 | int i=>obtain⟨t,e⟩:=(show ∃ t,u=Value.int i t from r); cases e; rfl
 | str x=>obtain⟨t,e⟩:=(show ∃ t,u=Value.str x t from r); cases e; rfl
 | byt b=>obtain⟨t,e⟩:=(show ∃ t,u=Value.bytes b t from r); cases e; rfl
 | flt b=>obtain⟨t,e⟩:=(show ∃ t,u=Value.float b t from r); cases e; rfl
 | ref a=>cases (show u=Value.ref a from r); rfl
 | ty n=>cases (show u=Value.type n from r); rfl
section
variable {P:Program} {w:World} {H H':Hp} {h h':Heap} {a C dx:Addr} {fs fs':List (Str×V)}
theorem Qg (hok:HOk P w H h) (e:H a=some (.ins C dx fs)):∃ mA,ObjM h a dx C mA/\(∀ f,RelO (fs.lookup f) (mA f))/\PySem.Within mA (fs.map (·.1))/\fs.length<=1000/\H dx=some (.own a):=by
 obtain⟨d,z,ne,ob,mA,n,r,q⟩:=(show ObjOk P w H h a (.ins C dx fs) from hok a _ e);exact⟨mA,⟨ob,n,ne⟩,r,q,z,d⟩
end
structure Cls (K:zAa) (C:Addr):Prop where
 pg:zCc K C Str.empty=true
 hd:zCu K C=true
 po:PySem.W.plainOver K C=true
 sa:zAc K (.ref C) "__setattr__" = some (some (.builtin "object.__setattr__"))
theorem Cls.get {K:zAa} {C:Addr} (c:Cls K C) (f:Str):zCc K C f=true:=c.pg
def NoAttr (K:zAa) (C:Addr) (f:Str):Prop:=zAc K (.ref C) f=some none
theorem NoAttr.taker {K:zAa} {C:Addr} {f:Str} (n:NoAttr K C f):PySem.W.takerIn K C f=some none:=by
 unfold PySem.W.takerIn;rw[show zAc K (.ref C) f=some none from n];rfl
structure Ei (K:zAa) (C:Addr) (m:Str) (f:Addr):Prop where
 at_:zAc K (.ref C) m=some (some (.ref f))
 fn:zCp K (.ref f)=true
 kp:zAT K (.ref f)=true
section
variable {X:Cx} {pins:List (Addr×Obj)} {σ:St} {H:Hp} {s:Shared} {a C dx:Addr} {fs:List (Str×V)} {f:Str} {v:V} {A:Around} {E:Value->Shared->Prop}
theorem F7 {b:Bool} {Q:Value->Shared->Prop} (I:Inv X pins σ H s) (e:H a=some (.ins C dx fs)) (c:Cls X.K C) (n:NoAttr X.K C f) (l:fs.lookup f=some v)
  (h:∀ u s',Inv X pins σ H s'->RelV v u->Q u s'):wpAny (model X.prog X.w) A (getAttr (.ref a) f b) Q E s:=by
 obtain⟨mA,O,r,_,_,_⟩:=Qg I.hok e;obtain⟨u,hu,ru⟩:=RelO.some_of (v:=v) (o:=mA f) (by rw[<- l]; exact r f);exact GA I.kIn O (c.get f) c.hd n hu (Z4 ru) (h u _ (I.tok _) ru)
theorem Lr {m:Str} {g:Addr} {pl:Sem Bool} {Q:Value×List Value->Shared->Prop} (I:Inv X pins σ H s) (e:H a=some (.ins C dx fs)) (c:Cls X.K C) (k:Ei X.K C m g) (l:fs.lookup m=none)
  (h:Q (.ref g,[.ref a]) s):wpAny (model X.prog X.w) A (getMethod (.ref a) m pl) Q E s:=by
 obtain⟨mA,O,r,_,_,_⟩:=Qg I.hok e;have hn:mA m=none:=RelO.none_of (by rw[<- l]; exact r m);exact DM I.kIn O (c.get m) k.at_ k.fn hn h
theorem F4 {y:V} {u:Value} {Q:Unit->Shared->Prop} (I:Inv X pins σ H s) (e:H a=some (.ins C dx fs)) (c:Cls X.K C) (n:NoAttr X.K C f) (hl:fs.length<1000) (ry:RelV y u)
  (h:∀ s',Inv X pins σ (upd H a (.ins C dx (Bs f y fs))) s'->Q () s'):wpAny (model X.prog X.w) A (setAttr (.ref a) f u) Q E s:=by
 obtain⟨mA,O,r,wi,_,ho⟩:=Qg I.hok e;have hz:(fs.map (·.1)).length<=sizeLine:=by rw[zAb,zCE]; lia
 refine HA I.kIn O c.sa c.po n.taker c.hd wi hz fun h' O' sb=>h _ ?_;have hd:∃ o,h'.get? dx=some o:=let ⟨o,_,_,e',_⟩:=O'.ns; ⟨o,e'⟩
 refine I.write (x:=a) (e:=dx) (by rw[e]; exact True.intro) (.inr ho) (fun b q hb z=>(sb.2 b hb).trans z) hd ?_;refine⟨by rw[Ar O.ne]; exact ho,?_,O.ne,O'.obj,_,O'.ns,fun g=>?_,fun g hg=>?_⟩
 ·have:=Pc f y fs; lia
 ·show RelO ((Bs f y fs).lookup g) (if g=f then some u else mA g)
  rw[Bi];by_cases q:g=f
  ·rw[if_pos q,if_pos q]; exact ry
  ·rw[if_neg q,if_neg q]; exact r g
 ·by_cases q:g=f
  ·rw[q]; exact (Oj f y fs).1
  ·refine (Oj f y fs).2 g (wi g fun z=>hg ?_)
   show (if g=f then some u else mA g)=none;rw[if_neg q]; exact z
theorem Inv.made (I:Inv X pins σ H s):Inv X pins σ (upd (upd H s.heap.objs.size (.own (s.heap.objs.size+1))) (s.heap.objs.size+1) (.ins C s.heap.objs.size []))
  { s with heap:=(s.heap.push zAS).push (zBa C s.heap.objs.size) }:=by
 have e1:(s.heap.push zAS).get? s.heap.objs.size=some zAS:=zAu s.heap rfl;have e2:((s.heap.push zAS).push (zBa C s.heap.objs.size)).get? (s.heap.objs.size+1)=some (zBa C s.heap.objs.size):=by
  have:=zAu (s.heap.push zAS) (o:=zBa C s.heap.objs.size) rfl
  rwa [zBn] at this
 have e3:(s.heap.push zAS).Ns s.heap.objs.size (fun _=>none):=⟨zAS,#[],_,e1,rfl,(fun e he=>absurd he (by simp)),fun _=>rfl⟩;have I1:=I.laid (a:=s.heap.objs.size) (o:=.own (s.heap.objs.size+1)) (h':=s.heap.push zAS) (t':=s.toks) (fun b u q=>zAd _ q) (zAl _) ⟨_,e1⟩;refine I1.laid (a:=s.heap.objs.size+1) (o:=.ins C s.heap.objs.size []) (t':=s.toks) (fun b u q=>zAd _ q) (Nat.le_of_eq (zBn _ _)) ?_;have ne:s.heap.objs.size≠s.heap.objs.size+1:=zAw (zBx _);refine⟨by rw[Ar ne,Ab],zAD _,ne,e2,fun _=>none,(Heap.Ns1.of_empty e3).at fun o q=>zAd _ q,fun _=>True.intro,fun y hy=>absurd rfl hy⟩
theorem HE {prog:Program} {w:World} {env:Env} {e:Expr} {f:Str} {pos:Pos} {s:Shared} {Q:Value->Shared->Prop} (hb:attributeBase e f env (eval e env)=eval e env)
  (h:wpAny (model prog w) A (eval e env) (fun o s₁ => wpAny (model prog w) A (getAttr o f true) Q E s₁) E s):wpAny (model prog w) A (eval (.Attribute e f pos) env) Q E s:=
 Attribute_any_ h (by rw[arm_eval_Attribute,hb])
end
def LK (K:zAa) (ta:TE) (f:Str):TE:=fun σ H Q=>ta σ H fun x H1=>∃ a C dx fs v,x = .ref a/\H1 a=some (.ins C dx fs)/\Cls K C/\NoAttr K C f/\fs.lookup f=some v/\Q v H1
def PB (K:zAa) (ta tv:TE) (f:Str):TS:=fun D σ H=>tv σ H fun y H1=>ta σ H1 fun x H2=>∃ a C dx fs,x = .ref a/\H2 a=some (.ins C dx fs)/\Cls K C/\NoAttr K C f/\fs.length<1000 /\
 D.nx σ (upd H2 a (.ins C dx (Bs f y fs)))
section
variable {X:Cx} {o e value:Expr} {f:Str} {pos pos' tpos:Pos} {ta tv:TE}
theorem Cp (he:PE X e ta) (hb:attributeBase e f X.env (eval e X.env)=eval e X.env):PE X (.Attribute e f pos) (LK X.K ta f):=by
 intro pins s σ H Q I h;refine HE hb (Cw (he pins s σ H _ I h) fun u s1 ⟨x,H1,I1,rx,a,C,dx,fs,v,ex,ea,c,n,l,q⟩=>?_);subst ex;obtain rfl:u=Value.ref a:=rx;exact F7 I1 ea c n l fun u' s2 I2 ru=>⟨v,H1,I2,ru,q⟩
theorem Ct (ha:PE X o ta) (hv:PE X value tv) (hs:swapsWith value (some (.Attribute o f pos')) pos.line X.env=pure false):PS X (.Assign [.Attribute o f pos'] value pos) (PB X.K ta tv f):=by
 intro pins s σ H D I h;refine plainObj_wpAny_Assign_Attribute (Cw (hv pins s σ H _ I h) fun u s1 ⟨y,H1,I1,ry,q⟩=>Cw (ha pins s1 σ H1 _ I1 q) fun ov s2 ⟨x,H2,I2,rx,a,C,dx,fs,ex,ea,c,n,l,q2⟩=>?_) hs;subst ex;obtain rfl:ov=Value.ref a:=rx;exact F4 I2 ea c n l ry fun s3 I3=>⟨σ,_,I3,q2⟩
theorem HP {pl:Sem Bool} {m:Str} {apos:Pos} {args:List Expr} {pins:List (Addr×Obj)} {s:Shared} {σ:St} {H:Hp} {Q:Value->Shared->Prop} {te:TE} (he:PE X e te) (I:Inv X pins σ H s)
  (h:te σ H fun x H1=>∃ a C dx fs g,x = .ref a/\H1 a=some (.ins C dx fs)/\Cls X.K C/\Ei X.K C m g/\fs.lookup m=none /\
   ∀ s1,Inv X pins σ H1 s1->wpAny (model X.prog X.w) X.A (callWith pos (.ref g) [.ref a] (backTo pos (starEach args X.env)) (backToKw pos (keywordEach [] X.env))) Q X.xe s1)
  (ht:eval (.Call (.Attribute e m apos) args [] pos) X.env=(do
   let ov <- eval e X.env
   standAt apos.atName
   let (f,first) <- holding [ov] (getMethod ov m pl)
   callWith pos f first (backTo pos (starEach args X.env)) (backToKw pos (keywordEach [] X.env)))) :
  wpAny (model X.prog X.w) X.A (eval (.Call (.Attribute e m apos) args [] pos) X.env) Q X.xe s:=by
 refine zBV (pl:=pl) (Cw (he pins s σ H _ I h) fun u s1 ⟨x,H1,I1,rx,a,C,dx,fs,g,ex,ea,c,k,l,q⟩=>?_) ht;subst ex;obtain rfl:u=Value.ref a:=rx;exact Lr I1 ea c k l (q s1 I1)
end
section
variable {X:Cx} {pins:List (Addr×Obj)} {σ:St} {H:Hp} {s:Shared} {A:Around} {E:Value->Shared->Prop} {Q:Value->Shared->Prop} {c:Value} {b:Bool}
inductive Gx (K:zAa) (H:Hp):V->Value->Prop where
 | non:Gx K H .non (.type "NoneType")
 | bl (x:Bool):Gx K H (.bl x) (.type "bool")
 | int (i:Int):Gx K H (.int i) (.type "int")
 | str (x:Str):Gx K H (.str x) (.type "str")
 | flt (x:UInt64):Gx K H (.flt x) (.type "float")
 | lst {a:Addr} {xs:List V} (e:H a=some (.lst xs)):Gx K H (.ref a) (.type "list")
 | frz {a:Addr} {o:Obj} {xs:List V} (e:H a=some (.frz o (.lst xs))):Gx K H (.ref a) (.type "list")
 | tup {a:Addr} {xs:List V} (e:H a=some (.tup xs)):Gx K H (.ref a) (.type "tuple")
 | dK {a:Addr} {kvs:List (Dt×V)} (e:H a=some (.dK kvs)):Gx K H (.ref a) (.type "dict")
 | dT {a:Addr} {kvs:List (List Dt×V)} (e:H a=some (.dT kvs)):Gx K H (.ref a) (.type "dict")
 | ins {a C dx:Addr} {fs:List (Str×V)} (e:H a=some (.ins C dx fs)) (cl:Cls K C) (ha:zAc K (.ref C) "__class__" = some (some (.builtin "object.__class__")))
   (hn:zCv K (.builtin "object.__class__") "__get__" = some (some (.builtin "getset_descriptor.__get__"))) (htk:PySem.W.takesIn K (.builtin "object.__class__")=some true)
   (hm:zCx K C (.type "object")=some true):Gx K H (.ref a) (.ref C)
theorem Y4 {x:V} {u t:Value} (I:Inv X pins σ H s) (rx:RelV x u) (ty:Gx X.K H x t) (e:zAV X.K t c=some b) (h:∀ tk,Q (.bool b) { s with toks:=tk }) :
  wpAny (model X.prog X.w) A (call (.builtin "isinstance") [u,c]) Q E s:=by
 cases ty with
 | non=>cases (show u=Value.none from rx); exact zBi PySem.W.kitx_none I.kIn True.intro e (fun z=>nomatch z) h
 | bl y=>cases (show u=Value.bool y from rx); exact zBi PySem.W.kitx_bool I.kIn True.intro e (fun z=>nomatch z) h
 | int i=>obtain⟨t,q⟩:=(show ∃ t,u=Value.int i t from rx); cases q; exact zBi PySem.W.kitx_int I.kIn True.intro e (fun z=>nomatch z) h
 | str y=>obtain⟨t,q⟩:=(show ∃ t,u=Value.str y t from rx); cases q; exact zBi PySem.W.kitx_str I.kIn True.intro e (fun z=>nomatch z) h
 | flt y=>obtain⟨t,q⟩:=(show ∃ t,u=Value.float y t from rx); cases q; exact zBi PySem.W.kitx_float I.kIn True.intro e (fun z=>nomatch z) h
 | @lst a xs ea=>
  cases (show u=Value.ref a from rx)
  obtain⟨_,_,n,_,h1⟩:=(show ObjOk X.prog X.w H s.heap a (.lst xs) from I.hok a _ ea);exact zBi PySem.W.kitx_list I.kIn ⟨_,h1,rfl⟩ e (fun z=>nomatch z) h
 | @frz a ob xs ea=>
  cases (show u=Value.ref a from rx)
  obtain⟨_,_,_,n,_,h1⟩:=(show ObjOk X.prog X.w H s.heap a (.frz ob (.lst xs)) from I.hok a _ ea);exact zBi PySem.W.kitx_list I.kIn ⟨_,h1,rfl⟩ e (fun z=>nomatch z) h
 | @tup a xs ea=>
  cases (show u=Value.ref a from rx)
  obtain⟨_,_,_,p⟩:=(show ObjOk X.prog X.w H s.heap a (.tup xs) from I.hok a _ ea);obtain⟨o,h1,h2,_⟩:=p;exact zBi PySem.W.kitx_tuple I.kIn ⟨o,h1,h2⟩ e (fun z=>nomatch z) h
 | @dK a kvs ea=>
  cases (show u=Value.ref a from rx)
  obtain⟨_,_,vs,_,p⟩:=(show ObjOk X.prog X.w H s.heap a (.dK kvs) from I.hok a _ ea);obtain⟨o,es,ep,h1,h2,_⟩:=p;exact zBi PySem.W.kitx_dict I.kIn ⟨o,h1,h2.1⟩ e (fun z=>nomatch z) h
 | @dT a kvs ea=>
  cases (show u=Value.ref a from rx)
  obtain⟨_,_,xs,_,o,es,ep,h1,h2,_⟩:=(show ObjOk X.prog X.w H s.heap a (.dT kvs) from I.hok a _ ea);exact zBi PySem.W.kitx_dict I.kIn ⟨o,h1,h2.1⟩ e (fun z=>nomatch z) h
 | @ins a C dx fs ea cl ha hn htk hm=>
  cases (show u=Value.ref a from rx)
  obtain⟨mA,O,_⟩:=Qg I.hok ea;obtain⟨od,J,_⟩:=O.look;exact zBi (PySem.W.kitx_own (cl.get _) cl.hd ha hn htk hm) I.kIn J e (fun z=>nomatch z) h
end
structure Room (k:Nat) (A:Around):Prop where
 hd:A.handled=none
 dp:A.depth+3*k+5<recursionLimit
 un:A.units+16*k+200<cLine
theorem Room.mono {j k:Nat} {A:Around} (r:Room k A) (h:j<=k):Room j A:=⟨r.hd,by have:=r.dp; lia,by have:=r.un; lia⟩
theorem Room.deeper {k:Nat} {A:Around} (r:Room (k+1) A) (env:Env):Room k (A.deeper env):=
 ⟨r.hd,by have:=r.dp; show A.depth+1+3*k+5<_; lia,by have:=r.un; show A.units+3+16*k+200<_; lia⟩
theorem J4 {A:Around} {C:Addr} {us:List Value} {kw:List (Str×Value)}:(A.under (.builtin "type.__call__" ⟨.ref C::us,kw⟩)).depth=A.depth+1:=by
 first | rfl | simp [Around.under,Code.weight,Code.isCreation,Code.isGuard,Code.isCaller,Code.frames,Code.isFrame,guardIds]
theorem J2 {A:Around} {C:Addr} {us:List Value} {kw:List (Str×Value)}:(A.under (.builtin "type.__call__" ⟨.ref C::us,kw⟩)).units=A.units+1:=by
 first | rfl | simp [Around.under,Code.cUnits,Code.frames,Code.isFrame]
theorem Room.make {k:Nat} {A:Around} (r:Room (k+1) A) (C:Addr) (us:List Value) (kw:List (Str×Value)):Room k (A.under (.builtin "type.__call__" ⟨.ref C::us,kw⟩)):=
 ⟨r.hd,by have:=r.dp; rw[J4]; lia,by have:=r.un; rw[J2]; lia⟩
theorem Room.depth {k:Nat} {A:Around} (r:Room k A):A.depth<recursionLimit:=by have:=r.dp; lia
theorem Room.units {k:Nat} {A:Around} (r:Room k A):A.units+64<cLine:=by have:=r.un; lia
def IX:TA:=fun _ H Q=>Q [] H
def MA (ta:TE) (tr:TA):TA:=fun σ H Q=>ta σ H fun x H1=>tr σ H1 fun xs H2=>Q (x::xs) H2
section
variable {X:Cx} {e:Expr} {es:List Expr} {te:TE} {t:TA} {pos:Pos}
theorem Af:PA X [] IX:=fun _ _ _ _ H Q I h=>Calls.spliced_nil ⟨[],H,I,.nil,h⟩
theorem Aa (ha:PE X e te) (hr:PA X es t) (hs:starEach (e::es) X.env=(false,eval e X.env)::starEach es X.env:=by rfl):PA X (e::es) (MA te t):=by
 intro pos pins s σ H Q I h;rw[hs];show wpAny _ _ (spliced ((false,eval e X.env)::backTo pos (starEach es X.env))) _ _ s;refine Calls.spliced_cons (Cw (ha pins s σ H _ I h) fun u s1 ⟨x,H1,I1,r1,q1⟩=>?_);exact Cw (hr pos pins s1 σ H1 _ I1 q1) fun us s2 ⟨xs,H2,I2,r2,q2⟩=>⟨x::xs,H2,I2,.cons r1 r2,q2⟩
def NU (t:TA):TE:=fun σ H Q=>t σ H fun xs H1=>xs.length<=sizeLine/\∀ p,H1 p=none->Q (.ref p) (upd H1 p (.tup xs))
def OC (t:TA):TE:=fun σ H Q=>t σ H fun xs H1=>xs.length<=sizeLine/\∀ p,H1 p=none->Q (.ref p) (upd H1 p (.lst xs))
theorem Cd {x1} (h:PA X es t):PE X (.Tuple es x1 pos) (NU t):=by
 intro pins s σ H Q I hq;refine wpAny_Tuple_spliced (Cw (h pos pins s σ H _ I hq) fun us s1 ⟨xs,H1,I1,r,z,q⟩=>⟨by rw[<- r.length]; exact z,?_⟩);have hf:H1 s1.heap.objs.size=none:=I1.hok.fresh (zAl _);refine⟨.ref s1.heap.objs.size,upd H1 s1.heap.objs.size (.tup xs),I1.laid (t':=s1.toks) (fun b u e=>zAd _ e) (zAl _) ?_,rfl,q _ hf⟩;exact⟨z,us,r,⟨_,zAu _ rfl,rfl,_,rfl⟩⟩
theorem Ci (h:PA X es t):PE X (.List es pos) (OC t):=by
 intro pins s σ H Q I hq;refine wpAny_List_spliced (Cw (h pos pins s σ H _ I hq) fun us s1 ⟨xs,H1,I1,r,z,q⟩=>⟨by rw[<- r.length]; exact z,?_⟩);have hf:H1 s1.heap.objs.size=none:=I1.hok.fresh (zAl _);refine⟨.ref s1.heap.objs.size,upd H1 s1.heap.objs.size (.lst xs),I1.laid (t':=s1.toks) (fun b u e=>zAd _ e) (zAl _) ?_,rfl,q _ hf⟩;exact⟨z,us,0,r,zAu _ rfl⟩
end
abbrev Sp:=List V->Hp->VK->XK->Prop
abbrev W5:=List Env->Hp->Shared->XK->Value->Shared->Prop
structure Env0 (P:Program) (w:World) (K:zAa) (mg:Str->Option Value) (base:Heap) (A:Around) (outer:List Env) (s:Shared) (H:Hp):Prop where
 frames:A.frames=some outer
 mod:Mod K mg base
 bs:∀ b o,base.get? b=some o->s.heap.get? b=some o/\H b=none
 bsz:base.objs.size<=s.heap.objs.size
 funs:s.heap.FunFrames base outer
 frf:∀ b∈AK outer,H b=none
 hok:HOk P w H s.heap
 bare:AllBare s.gens
def CE (outer:List Env) (P:Program) (w:World) (H:Hp) (s:Shared) (Q:VK) (u:Value) (s':Shared):Prop:=
 ∃ v H',s'.os=s.os/\AllBare s'.gens/\Un (AK outer) [] H H' s.heap s'.heap/\HOk P w H' s'.heap/\RelV v u/\Q v H'
def CR (CX:W5) (outer:List Env) (P:Program) (w:World) (H:Hp) (s:Shared) (Q:VK) (E:XK) (r:Result) (s':Shared):Prop:=
 match r with
 | .ok (.ret u)=>CE outer P w H s Q u s'
 | .ok _=>False
 | .error e=>CX outer H s E e s'
structure FnOk (P:Program) (w:World) (K:zAa) (mg:Str->Option Value) (base:Heap) (CX:W5) (k:Nat) (f:Addr) (fd:zCG) (ps:List Str) (sp:Sp):Prop where
 len:∀ vs H Q E,sp vs H Q E->vs.length=ps.length
 run:∀ (A:Around) (outer:List Env) (s:Shared) (H:Hp) (args:Args) (us:List Value) (vs:List V) (Q:VK) (E:XK),Room k A->Env0 P w K mg base A outer s H->BindsTo s fd args (ps.zip us)->Vals vs us->sp vs H Q E ->
  codeAny (model P w) A (.call (.ref f) args) (CR CX outer P w H s Q E) s
theorem FnOk.mono {P:Program} {w:World} {K:zAa} {mg:Str->Option Value} {base:Heap} {CX:W5} {j k:Nat} {f:Addr} {fd:zCG} {ps:List Str} {sp:Sp} (F:FnOk P w K mg base CX j f fd ps sp) (h:j<=k) :
  FnOk P w K mg base CX k f fd ps sp:=⟨F.len,fun A outer s H args us vs Q E hr=>F.run A outer s H args us vs Q E (hr.mono h)⟩
theorem Env0.make {P:Program} {w:World} {K:zAa} {mg:Str->Option Value} {base:Heap} {A:Around} {outer:List Env} {s:Shared} {H:Hp} (e:Env0 P w K mg base A outer s H) (C:Addr) (us:List Value) (kw:List (Str×Value)) :
  Env0 P w K mg base (A.under (.builtin "type.__call__" ⟨.ref C::us,kw⟩)) outer s H:=⟨by first | exact e.frames | (simpa [Around.under,Code.envs,Code.isFrame,pushEnvs] using e.frames),e.mod,e.bs,e.bsz,e.funs,e.frf,e.hok,e.bare⟩
section
variable {X:Cx} {pins:List (Addr×Obj)} {σ:St} {H:Hp} {s s':Shared}
theorem Inv.env0 (I:Inv X pins σ H s):Env0 X.prog X.w X.K X.mg X.base X.A X.stack s H:=
 ⟨I.ok.frames,I.ok.mod,I.bs,zAG I.ok.bsz I.sz,I.stack,I.stkFree,I.hok,I.bare⟩
theorem Inv.after {Q:VK} {u:Value} (I:Inv X pins σ H s) (h:CE X.stack X.prog X.w H s Q u s'):EP X pins σ Q u s':=by
 obtain⟨v,H',os,bare,un,hok,r,q⟩:=h;obtain⟨hh,g,d,t,os'⟩:=s';obtain rfl:os'=s.os:=os;exact⟨v,H',I.call (h':=hh) (g':=g) (d':=d) (t':=t) (ch:=[]) un hok bare (fun b z=>absurd z (by simp)),r,q⟩
end
def P9 (sp:Sp) (dvs:List V) (E:XK) (t:TA):TE:=fun σ H Q=>t σ H fun vs H1=>sp (vs++dvs) H1 Q E
def HY (C:Addr) (m:Str) (sp:Sp) (dvs:List V) (E:XK) (ta:TE) (t:TA):TE:=fun σ H Q=>ta σ H fun x H1=>∃ a dx fs,x = .ref a/\H1 a=some (.ins C dx fs)/\fs.lookup m=none /\
 t σ H1 fun vs H2=>sp (x::(vs++dvs)) H2 Q E
def W0 (C:Addr) (sp:Sp) (dvs:List V) (E:XK) (t:TA):TE:=fun σ H Q=>t σ H fun vs H1=>∀ x dx,H1 x=none->H1 dx=none->dx≠x ->
 sp (.ref x::(vs++dvs)) (upd (upd H1 dx (.own x)) x (.ins C dx [])) (fun v H2=>v = .non/\Q (.ref x) H2) E
def Binds (K:zAa) (fd:zCG) (ps:List Str) (ds:List Value):Prop:=
 ∀ (s:Shared) (us:List Value),K.In s.heap->(us++ds).length=ps.length->BindsTo s fd ⟨us,[]⟩ (ps.zip (us++ds))
theorem Binds.all {K:zAa} {fd:zCG} {ps:List Str} (h:∀ us:List Value,us.length=ps.length->bindArgs fd ⟨us,[]⟩=pure (ps.zip us)):Binds K fd ps []:=fun s us _ hl=>by
 rw[zAN] at hl ⊢;exact .of_eq (h us hl)
def Ls (CX:W5) (X:Cx) (E:XK):Prop:=∀ (pins:List (Addr×Obj)) (σ:St) (H:Hp) (s:Shared) (e:Value) (s':Shared),Inv X pins σ H s->CX X.stack H s E e s'->X.xe e s'
section
variable {X:Cx} {CX:W5} {k:Nat} {f C:Addr} {fd:zCG} {ps:List Str} {sp:Sp} {dvs:List V} {ds:List Value} {E:XK} {x m:Str} {p pos apos:Pos} {e o:Expr} {es:List Expr} {ta:TE} {t:TA}
theorem Yi {pins:List (Addr×Obj)} {σ:St} {H:Hp} {s:Shared} {Q:VK} {us:List Value} {vs:List V} (F:FnOk X.prog X.w X.K X.mg X.base CX k f fd ps sp) (hr:Room k X.A) (hb:Binds X.K fd ps ds) (hd:Vals dvs ds) (hx:Ls CX X E)
  (I:Inv X pins σ H s) (r:Vals vs us) (h:sp (vs++dvs) H Q E):wpAny (model X.prog X.w) X.A (call (.ref f) us) (EP X pins σ Q) X.xe s:=by
 have r2:Vals (vs++dvs) (us++ds):=r.append hd;have hl:(us++ds).length=ps.length:=by rw[<- r2.length]; exact F.len _ _ _ _ h
 refine wpAny_call (codeAny_mono (F.run X.A X.stack s H ⟨us,[]⟩ (us++ds) (vs++dvs) Q E hr I.env0 (hb s us I.kIn hl) r2 h) fun r s' hq=>?_);cases r with
 | error e=>exact hx pins σ H s e s' I hq
 | ok fl=>
  cases fl with
  | ret u=>exact I.after hq
  | next=>exact False.elim hq
  | brk=>exact False.elim hq
  | cont=>exact False.elim hq
theorem HB (F:FnOk X.prog X.w X.K X.mg X.base CX k f fd ps sp) (hr:Room k X.A) (hg:Gl X x) (hm:X.mg x=some (.ref f)) (hk:zAT X.K (.ref f)=true) (hb:Binds X.K fd ps ds) (hd:Vals dvs ds) (hx:Ls CX X E)
  (ha:PA X (e::es) t) (hdb:(x==("__debug__" : Str))=false:=by decide) (he:starEach (e::es) X.env=(false,eval e X.env)::starEach es X.env:=by rfl) (hpl:(backTo pos (starEach es X.env)).any (·.1)=false:=by rfl) :
  PE X (.Call (.Name x p) (e::es) [] pos) (P9 sp dvs E t):=by
 intro pins s σ H Q I h;refine wpAny_Call_Name_kw (Hb I hg hm ?_ hdb);refine zBB (h₀ := X.base) I.ok.mod.kin hk (Cw (ha pos pins s σ H _ I h) fun us s1 ⟨vs,H1,I1,r,q⟩=>⟨I1.kIn,?_⟩) he hpl;exact Yi F hr hb hd hx I1 r q
theorem GF {pl:Sem Bool} (he:PE X o ta) (c:Cls X.K C) (hm:Ei X.K C m f) (F:FnOk X.prog X.w X.K X.mg X.base CX k f fd ps sp) (hr:Room k X.A) (hb:Binds X.K fd ps ds) (hd:Vals dvs ds) (hx:Ls CX X E) (ha:PA X (e::es) t)
  (hst:starEach (e::es) X.env=(false,eval e X.env)::starEach es X.env:=by rfl) (hpl:(backTo pos (starEach es X.env)).any (·.1)=false:=by rfl)
  (ht:eval (.Call (.Attribute o m apos) (e::es) [] pos) X.env=(do
   let ov <- eval o X.env
   standAt apos.atName
   let (f,first) <- holding [ov] (getMethod ov m pl)
   callWith pos f first (backTo pos (starEach (e::es) X.env)) (backToKw pos (keywordEach [] X.env))):=by rfl) :
  PE X (.Call (.Attribute o m apos) (e::es) [] pos) (HY C m sp dvs E ta t):=by
 intro pins s σ H Q I h;refine zBV (pl:=pl) (Cw (he pins s σ H _ I h) fun u s1 ⟨x,H1,I1,rx,a,dx,fs,ex,ea,l,q⟩=>?_) ht;subst ex;obtain rfl:u=Value.ref a:=rx;refine Lr I1 ea c hm l ?_;refine zBB (first:=[.ref a]) (h₀ := X.base) I.ok.mod.kin hm.kp (Cw (ha pos pins s1 σ H1 _ I1 q) fun us s2 ⟨vs,H2,I2,r,q2⟩=>⟨I2.kIn,?_⟩) hst hpl;exact Yi (us:=.ref a::us) (vs:=.ref a::vs) F hr hb hd hx I2 (.cons rfl r) q2
structure Mk (K:zAa) (C f:Addr):Prop where
 makes:zCm K C=true
 init:zAc K (.ref C) "__init__" = some (some (.ref f))
 fn:zCp K (.ref f)=true
 kp:zAT K (.ref C)=true
theorem C5 {pins:List (Addr×Obj)} {σ:St} {H:Hp} {s:Shared} {Q:VK} {us:List Value} {vs:List V} (M:Mk X.K C f) (F:FnOk X.prog X.w X.K X.mg X.base CX k f fd ps sp) (hr:Room (k+1) X.A) (hb:Binds X.K fd ps ds) (hd:Vals dvs ds)
  (hx:Ls CX X E) (I:Inv X pins σ H s) (r:Vals vs us)
  (h:∀ x dx,H x=none->H dx=none->dx≠x->sp (.ref x::(vs++dvs)) (upd (upd H dx (.own x)) x (.ins C dx [])) (fun v H2=>v = .non/\Q (.ref x) H2) E) :
  wpAny (model X.prog X.w) X.A (call (.ref C) us) (EP X pins σ Q) X.xe s:=by
 have hq:=h (s.heap.objs.size+1) s.heap.objs.size (I.hok.fresh (zBl _)) (I.hok.fresh (zAl _)) (zAw (zBx _));have I2:=Inv.made (C:=C) I;have r2:Vals (V.ref (s.heap.objs.size+1)::(vs++dvs)) (Value.ref (s.heap.objs.size+1)::(us++ds)):=.cons rfl (r.append hd);have hl:(Value.ref (s.heap.objs.size+1)::us++ds).length=ps.length:=by
  have e:=r2.length;rw[F.len _ _ _ _ hq] at e;exact e.symm
 refine wpAny_call (CT (f:=f) I.kIn M.makes M.init (beq_iff_eq.mp M.fn) (codeAny_mono (F.run _ X.stack _ _ ⟨Value.ref (s.heap.objs.size+1)::us,[]⟩ (Value.ref (s.heap.objs.size+1)::(us++ds)) _ _ E (hr.make C us [])
  (I2.env0.make C us []) (hb _ (Value.ref (s.heap.objs.size+1)::us) I2.kIn hl) r2 hq) fun r s' hq'=>?_))
 cases r with
 | error e=>exact hx pins σ _ _ e s' I2 hq'
 | ok fl=>
  cases fl with
  | ret u=>
   obtain⟨v,H',I3,rv,ev,q3⟩:=I2.after hq';subst ev;exact⟨rv,⟨V.ref (s.heap.objs.size+1),H',I3,rfl,q3⟩⟩
  | next=>exact False.elim hq'
  | brk=>exact False.elim hq'
  | cont=>exact False.elim hq'
theorem FM (M:Mk X.K C f) (F:FnOk X.prog X.w X.K X.mg X.base CX k f fd ps sp) (hr:Room (k+1) X.A) (hg:Gl X x) (hm:X.mg x=some (.ref C)) (hb:Binds X.K fd ps ds) (hd:Vals dvs ds) (hx:Ls CX X E)
  (ha:PA X (e::es) t) (hdb:(x==("__debug__" : Str))=false:=by decide) (he:starEach (e::es) X.env=(false,eval e X.env)::starEach es X.env:=by rfl) (hpl:(backTo pos (starEach es X.env)).any (·.1)=false:=by rfl) :
  PE X (.Call (.Name x p) (e::es) [] pos) (W0 C sp dvs E t):=by
 intro pins s σ H Q I h;refine wpAny_Call_Name_kw (Hb I hg hm ?_ hdb);refine zBB (h₀ := X.base) I.ok.mod.kin M.kp (Cw (ha pos pins s σ H _ I h) fun us s1 ⟨vs,H1,I1,r,q⟩=>⟨I1.kIn,?_⟩) he hpl;exact C5 M F hr hb hd hx I1 r q
theorem BA (M:Mk X.K C f) (F:FnOk X.prog X.w X.K X.mg X.base CX k f fd ps sp) (hr:Room (k+1) X.A) (hg:Gl X x) (hm:X.mg x=some (.ref C)) (hb:Binds X.K fd ps ds) (hd:Vals dvs ds) (hx:Ls CX X E)
  (hdb:(x==("__debug__" : Str))=false:=by decide):PE X (.Call (.Name x p) [] [] pos) (W0 C sp dvs E IX):=by
 intro pins s σ H Q I h;refine wpAny_Call_Name_kw (Hb I hg hm ?_ hdb);exact PySem.W.callWith_K0 I.kIn M.kp (C5 (us:=[]) M F hr hb hd hx I .nil h)
end
section
variable {X:Cx} {CX:W5} {k:Nat} {f C:Addr} {fd:zCG} {ps ks:List Str} {sp:Sp} {E:XK} {x m:Str} {p pos apos kpos:Pos} {e o:Expr} {es:List Expr} {kws:List Keyword} {te ta:TE} {t tk:TA} {nm:Option Str}
variable {g:List Value->List Value->List Value} {gV:List V->List V->List V}
end
structure Bd (N P:List Str) (sc:Scope):Prop where
 kind:sc.kind = .function
 co:sc.isCoroutine=false
 gen:sc.isGenerator=false
 nd:N.Nodup
 pre:N.take P.length=P
 par:∀ x∈P,sc.names.lookup x=some .local\/sc.names.lookup x=some .cell
 nofree:∀ y∈sc.names,y.2 ≠ .free
theorem Vx {kindOf:Str->Option NameKind} {x:Str}:∀ {binds:List (Str×Value)} {m:Str->Option Value},(∀ v,(x,v)∉binds)->bindL kindOf binds m x=m x
 | [],_,_=>rfl
 | (n,v)::r,m,h=>by
  unfold bindL;rw[Vx fun w hw=>h w (zAf _ hw)]
  split
  ·have:x≠n:=by rintro rfl; exact h v zAj
   simp [this]
  ·rfl
theorem Vk {kindOf:Str->Option NameKind} {x:Str}:∀ {binds:List (Str×Value)} {m:Str->Option Value},(∀ v,(x,v)∉binds)->bindC kindOf binds m x=m x
 | [],_,_=>rfl
 | (n,v)::r,m,h=>by
  unfold bindC;rw[Vk fun w hw=>h w (zAf _ hw)]
  split
  ·rfl
  ·have:x≠n:=by rintro rfl; exact h v zAj
   simp [this]
theorem Uw {kindOf:Str->Option NameKind} {x:Str} {v:Value}:∀ {P:List Str} {vs:List Value} {i:Nat} {m:Str->Option Value},P.Nodup->P[i]?=some x->vs[i]?=some v->kindOf x=some .local ->
  bindL kindOf (P.zip vs) m x=some v
 | [],_,_,_,_,h,_,_=>by simp at h
 | _::_,[],_,_,_,_,h,_=>by simp at h
 | p::P,w::vs,0,m,nd,h1,h2,hk=>by
  simp at h1 h2; subst h1; subst h2;show bindL kindOf ((p,w)::P.zip vs) m p=_;unfold bindL;rw[Vx fun v hv=>(zAX.mp nd).1 (List.of_mem_zip hv).1,if_pos hk];simp
 | p::P,w::vs,i+1,m,nd,h1,h2,hk=>by
  show bindL kindOf ((p,w)::P.zip vs) m x=_;unfold bindL;exact Uw (i:=i) (zAX.mp nd).2 (by simpa using h1) (by simpa using h2) hk
theorem Vv {kindOf:Str->Option NameKind} {x:Str} {v:Value}:∀ {P:List Str} {vs:List Value} {i:Nat} {m:Str->Option Value},P.Nodup->P[i]?=some x->vs[i]?=some v->kindOf x≠some .local ->
  bindC kindOf (P.zip vs) m x=some v
 | [],_,_,_,_,h,_,_=>by simp at h
 | _::_,[],_,_,_,_,h,_=>by simp at h
 | p::P,w::vs,0,m,nd,h1,h2,hk=>by
  simp at h1 h2; subst h1; subst h2;show bindC kindOf ((p,w)::P.zip vs) m p=_;unfold bindC;rw[Vk fun v hv=>(zAX.mp nd).1 (List.of_mem_zip hv).1,if_neg hk];simp
 | p::P,w::vs,i+1,m,nd,h1,h2,hk=>by
  show bindC kindOf ((p,w)::P.zip vs) m x=_;unfold bindC;exact Vv (i:=i) (zAX.mp nd).2 (by simpa using h1) (by simpa using h2) hk
def Mo (N:List Str) (vs:List V):St:=vs.map some++zAz (N.length-vs.length) none
def F8 (CX:W5) (P:Program) (w:World) (K:zAa) (mg:Str->Option Value) (base:Heap) (N:List Str) (qual:Str) (scope:Scope) (f:Addr) (cd:Value) (A:Around) (outer:List Env) (s:Shared) (H:Hp) (E:XK):Cx where
 prog:=P
 w:=w
 K:=K
 mg:=mg
 base:=base
 A:=A.deeper (envOfC qual scope s.heap.objs.size f cd)
 N:=N
 s₀ := s
 H₀ := H
 env:=envOfC qual scope s.heap.objs.size f cd
 outer:=outer
 stack:=envOfC qual scope s.heap.objs.size f cd::outer
 ex:=[]
 calm:=true
 fn:=fun _=>true
 pn:=[]
 xe:=fun e s'=>wpAny (model P w) (A.deeper (envOfC qual scope s.heap.objs.size f cd)) (leaving (envOfC qual scope s.heap.objs.size f cd) e) (fun _ s''=>CX outer H s E e s'') (fun e' s''=>CX outer H s E e' s'') s'
theorem C8 {sc:Scope} {n:Nat} {x:Str} (h:sc.names.lookup x=some .cell):∃ c,(cellsFrom n sc.names []).lookup x=some c:=by
 have q:=PySem.W.cellsFrom_some sc.names n [] (.inl h);exact Option.isSome_iff_exists.mp q
theorem Z5 {CX:W5} {P:Program} {w:World} {K:zAa} {mg:Str->Option Value} {base:Heap} {N ps:List Str} {qual:Str} {scope:Scope} {f:Addr} {cd:Value} {A:Around} {outer:List Env} {s s1:Shared} {H:Hp} {E:XK} {us:List Value} {vs:List V}
  (S:Bd N ps scope) (hd:A.handled=none) (e0:Env0 P w K mg base A outer s H) (hl:vs.length=ps.length) (r:Vals vs us)
  (x:InCallC s s.heap.objs.size (bindL (envOfC qual scope s.heap.objs.size f cd).kindOf (ps.zip us) fun _=>none) (cellsFrom (s.heap.objs.size+1) scope.names []) (bindC (envOfC qual scope s.heap.objs.size f cd).kindOf (ps.zip us) fun _=>none) s1) :
  Inv (F8 CX P w K mg base N qual scope f cd A outer s H E) [] (Mo N vs) H s1:=by
 have hpl:ps.length<=N.length:=by have:=congrArg List.length S.pre; rw[zAx] at this; lia
 obtain⟨h1,tk,rfl,hk⟩:=x.done;have noA:∀ b:Addr,b∉(F8 CX P w K mg base N qual scope f cd A outer s H E).ex:=fun b z=>absurd (show b∈([]:List Addr) from z) (by simp);refine⟨⟨e0.mod,S.kind,rfl,rfl,zAl _,fun y z c h1 h2=>?_,fun y hy=>?_,fun y c _ h=>?_,fun _=>hd,Around.frames_deeper e0.frames,.inr ⟨rfl,rfl⟩,fun b z=>absurd z (noA b),e0.bs,e0.bsz,fun b _ _=>noA b,fun b z=>absurd z (noA b),e0.funs,e0.frf⟩,
  rfl,e0.bare,Un.kept hk,⟨_,x.toInCall.ns,fun i y v h1 h2 h3=>?_⟩,fun y c h=>⟨_,x.cell y c h⟩,e0.hok.fresh (zAl _),fun y c h=>?_,fun p hp=>absurd (show p∈([]:List (Addr×Obj)) from hp) (by simp),e0.hok.kept hk,?_⟩
 ·exact name_of_addr x.apart (PySem.mem_of_lookup h1) (PySem.mem_of_lookup h2)
 ·have hy:scope.names.lookup y=some .cell\/scope.names.lookup y=some .free:=hy
  rcases hy with hy | hy
  ·exact C8 hy
  ·exact absurd rfl (S.nofree _ (PySem.mem_of_lookup hy))
 ·exact Nat.le_of_lt (x.above y c (PySem.mem_of_lookup h))
 ·have hi:i<vs.length:=by
   unfold Mo at h2;by_cases hi:i<vs.length
   ·exact hi
   ·rw[zCh (by simpa using hi)] at h2
    rw[List.getElem?_replicate] at h2
    split at h2 <;> cases h2
  have ha:vs[i]?=some v:=by
   unfold Mo at h2;rw[List.getElem?_append_left (by simpa using hi),zAs] at h2;cases e:vs[i]? with
   | none=>rw[e] at h2; cases h2
   | some a=>rw[e] at h2; cases h2; rfl
  obtain⟨u,hu,rv⟩:=r.get ha;have hp:ps[i]?=some y:=by
   rw[<- S.pre,List.getElem?_take_of_lt (by lia)]; exact h1
  have ndP:ps.Nodup:=by rw[<- S.pre]; exact S.nd.sublist (List.take_sublist _ _)
  refine⟨u,rv,?_⟩;rcases S.par y (zAE hp) with k | k
  ·exact .inl ⟨k,Uw ndP hp hu k⟩
  ·obtain⟨c,e⟩:=C8 (n:=s.heap.objs.size+1) k
   refine .inr ⟨.inl k,c,e,?_⟩;have q:=x.cell y c e;rw[Vv ndP hp hu (by show scope.names.lookup y≠_; rw[k]; decide)] at q;exact q
 ·exact e0.hok.fresh (Nat.le_of_lt (x.above y c (PySem.mem_of_lookup h)))
 ·unfold Mo
  show _=N.length;rw[zAo,zAb,zBg]
  lia
theorem IA {CX:W5} {P:Program} {w:World} {K:zAa} {mg:Str->Option Value} {base:Heap} {k:Nat} {f:Addr} {name qual:Str} {params:Arguments} {body:List Stmt} {scope:Scope} {dV kV doc pm cdv ct oc:Value} {an od:Option Addr}
  {osl:Array (Option Value)} {N ps:List Str} {sp:Sp} (lk:K.lookup f=some ⟨oc,od,.func (zAW name qual params body scope dV kV doc pm an cdv ct),osl⟩) (hcd:zBo K cdv qual=true) (S:Bd N ps scope)
  (len:∀ vs H Q E,sp vs H Q E->vs.length=ps.length)
  (hbody:∀ (A:Around) (outer:List Env) (s:Shared) (H:Hp) (vs:List V) (Q:VK) (E:XK),Room k (A.deeper (envOfC qual scope s.heap.objs.size f cdv))->sp vs H Q E ->
   ∃ t,PSs (F8 CX P w K mg base N qual scope f cdv A outer s H E) body t/\t { nx:=fun _ H'=>Q .non H',rt:=Q } (Mo N vs) H) :
  FnOk P w K mg base CX (k+1) f (zAW name qual params body scope dV kV doc pm an cdv ct) ps sp:=by
 refine⟨len,fun A outer s H args us vs Q E hr e0 hb r hsp=>?_⟩;have hl:=len _ _ _ _ hsp;have KX:K.In s.heap:=e0.mod.kin.keeps fun b o e=>(e0.bs b o e).1;have lim:s.heap.NoLimit:=e0.mod.nolimit.keeps fun b o e=>(e0.bs b o e).1;have hkind:∀ y∈ps.zip us,scope.names.lookup y.1=some .local\/(scope.names.lookup y.1=some .cell/\((cellsFrom (s.heap.objs.size+1) scope.names []).lookup y.1).isSome=true):=fun ⟨n,v⟩ hy=>by
  rcases S.par n (List.of_mem_zip hy).1 with q | q
  ·exact .inl q
  ·exact .inr ⟨q,PySem.W.cellsFrom_some _ _ _ (.inl q)⟩
 refine codeAny_call_function hr.depth (KX _ _ lk) rfl S.co S.gen rfl (PySem.W.codeRec_of KX hcd) (hb _ _ _ _ ?_);refine wpAny_newFunctionEnv_cells S.kind hkind fun env he s1 x=>?_;subst he;refine⟨lim.keeps x.toInCall.keep,codeAny_func ?_⟩;obtain⟨t,ht,hq⟩:=hbody A outer s H vs Q E (hr.deeper _) hsp;have I:Inv (F8 CX P w K mg base N qual scope f cdv A outer s H E) [] (Mo N vs) H s1:=Z5 S hr.hd e0 hl r x;refine wpAny_mono (ht [] s1 (Mo N vs) H _ I hq) (fun fl s' hs=>?_) fun e s' hs=>hs;have fin:∀ {σ':St} {H':Hp} {v:V} {u:Value},Inv (F8 CX P w K mg base N qual scope f cdv A outer s H E) [] σ' H' s'->RelV v u->Q v H'->CE outer P w H s Q u s':=
  fun {σ' H' v u} J rv q=>⟨v,H',J.os,J.bare,J.base,J.hok,rv,q⟩
 cases fl with
 | ret u=>
  obtain⟨v,σ',H',J,rv,q⟩:=hs;exact fin J rv q
 | next=>
  obtain⟨σ',H',J,q⟩:=hs;exact fin (v:=V.non) (u:=Value.none) J rfl q
 | brk=>
  obtain⟨_,_,_,q⟩:=hs;exact False.elim q
 | cont=>
  obtain⟨_,_,_,q⟩:=hs;exact False.elim q
section
variable {X:Cx} {x:Str} {p pos:Pos} {e:Expr} {es:List Expr} {t:TA} {id T:String} {r:List V->Hp->VK->Prop}
def PJ (r:List V->Hp->VK->Prop) (t:TA):TE:=fun σ H Q=>t σ H fun vs H1=>r vs H1 Q
theorem Bn (hc:Gc X (.builtin id) r) (hg:Gl X x) (hm:X.mg x=none) (hv:zCF x=some (.builtin id)) (ha:PA X (e::es) t) (hn:x ≠ "__name__" := by decide) (hdb:(x==("__debug__" : Str))=false:=by decide)
  (he:starEach (e::es) X.env=(false,eval e X.env)::starEach es X.env:=by rfl) (hpl:(backTo pos (starEach es X.env)).any (·.1)=false:=by rfl):PE X (.Call (.Name x p) (e::es) [] pos) (PJ r t):=by
 intro pins s σ H Q I h;refine wpAny_Call_Name_kw (Hg I hg hm hv ?_ hn hdb);exact PyProof.Rows.callWith_builtin1 (Cw (ha pos pins s σ H _ I h) fun us s1 ⟨vs,H1,I1,r1,q1⟩=>hc pins s1 σ H1 vs us Q I1 r1 q1) he hpl
theorem Ep (hc:Gc X (.type T) r) (hg:Gl X x) (hm:X.mg x=none) (hv:zCF x=some (.type T)) (ha:PA X (e::es) t) (hn:x ≠ "__name__" := by decide) (hdb:(x==("__debug__" : Str))=false:=by decide)
  (he:starEach (e::es) X.env=(false,eval e X.env)::starEach es X.env:=by rfl) (hpl:(backTo pos (starEach es X.env)).any (·.1)=false:=by rfl):PE X (.Call (.Name x p) (e::es) [] pos) (PJ r t):=by
 intro pins s σ H Q I h;refine wpAny_Call_Name_kw (Hg I hg hm hv ?_ hn hdb);exact PyProof.Rows.callWith_type1 (Cw (ha pos pins s σ H _ I h) fun us s1 ⟨vs,H1,I1,r1,q1⟩=>hc pins s1 σ H1 vs us Q I1 r1 q1) he hpl
end
end L2
namespace HT
open PySem PyProof.Rows
def lexLt:List Int->List Int->Bool
 | [],[]=>false
 | [],_::_=>true
 | _::_,[]=>false
 | x::xs,y::ys=>if x=y then lexLt xs ys else decide (x<y)
theorem lexLt_cons (x y:Int) (xs ys:List Int):lexLt (x::xs) (y::ys)=if x=y then lexLt xs ys else decide (x<y):=rfl
section
open PySem.SeqAt
open PySem.AutoSeq1 (wpAny_loadPart')
open PySem.MeetsSeq PySem.MeetsSeq2 PySem.MeetsSeq3
end
section
variable {prog:Program} {w:World} {A:Around} {E:Value->Shared->Prop} {s:Shared}
def sIx (n d:Nat):Option Int->Nat
 | none=>d
 | some v=>if v<0 then (v+(n:Int)).toNat else min v.toNat n
theorem sIx_none (n d:Nat):sIx n d none=d:=rfl
theorem sIx_nat (n d k:Nat):sIx n d (some (k:Int))=min k n:=by
 show (if (k:Int)<0 then ((k:Int)+(n:Int)).toNat else min (k:Int).toNat n)=min k n;rw[if_neg (by lia),Int.toNat_natCast]
end
end HT
namespace L2
open PySem PySem.Spec PyProof.Rows
abbrev TO:=St->Hp->(Option Int->Hp->Prop)->Prop
def PO (X:Cx) (e:Option Expr) (t:TO):Prop:=
 ∀ (pins:List (Addr×Obj)) (s:Shared) (σ:St) (H:Hp) (Q:Option Int->Hp->Prop),Inv X pins σ H s->t σ H Q ->
  wpAny (model X.prog X.w) X.A (evalPart e X.env) (fun u s'=>∃ o H',Inv X pins σ H' s'/\IsPart u o/\Q o H') X.xe s
def HC:TO:=fun _ H Q=>Q none H
def MN (t:TE):TO:=fun σ H Q=>t σ H fun x H1=>∃ i,x = .int i/\Q (some i) H1
theorem Lm {ns:List Int}:∀ {us:List Value},Vals (ns.map V.int) us->IntsAre us ns:=by
 induction ns with
 | nil=>intro us r; rw[zBW] at r; cases r; exact .nil
 | cons n ns ih=>
  intro us r;rw[zAH] at r;cases r with
  | cons r1 r2=>
   obtain⟨t,e⟩:=r1;subst e;exact .cons n t (ih r2)
section
variable {X:Cx} {e:Expr} {te:TE} {lo hi:Option Expr} {tl th:TO} {pos p2:Pos}
theorem Yk:PO X none HC:=by
 intro pins s σ H Q I h;rw[evalPart_none];exact zCD ⟨none,H,I,.none,h⟩
theorem Yc (h:PE X e te):PO X (some e) (MN te):=by
 intro pins s σ H Q I hw;rw[evalPart_some];refine Cw (h pins s σ H _ I hw) fun u s1 ⟨x,H1,I1,r1,q1⟩=>?_;obtain⟨i,rfl,q⟩:=q1;obtain⟨t,rfl⟩:=r1;exact⟨some i,H1,I1,.int i t,q⟩
def PN (X:Cx) (r:V->Option Int->Option Int->Hp->VK->Prop):Prop:=
 ∀ (pins:List (Addr×Obj)) (s:Shared) (σ:St) (H:Hp) (x:V) (v vl vu:Value) (lo hi:Option Int) (sl:Addr) (Q:VK),Inv X pins σ H s->RelV x v->s.heap.IsSliceOf sl vl vu .none->IsPart vl lo->IsPart vu hi->r x lo hi H Q ->
  ∃ T id,typeLookup (.type T) "__getitem__" = pure (some (.builtin id))/\s.TypeIs v T/\wpAny (model X.prog X.w) X.A (getItem v (.ref sl)) (EP X pins σ Q) X.xe s
def QK (r:V->Option Int->Option Int->Hp->VK->Prop) (te:TE) (tl th:TO):TE:=fun σ H Q=>te σ H fun x H1=>tl σ H1 fun l H2=>th σ H2 fun u H3=>r x l u H3 Q
theorem Ru {r:V->Option Int->Option Int->Hp->VK->Prop} (hr:PN X r) (he:PE X e te) (hl:PO X lo tl) (hu:PO X hi th):PE X (.Subscript e (.Slice lo hi none p2) pos) (QK r te tl th):=by
 intro pins s σ H Q I h;refine Subscript_ (Cw (he pins s σ H _ I h) fun v s1 ⟨x,H1,I1,r1,q1⟩=>?_);refine wpAny_Slice (Cw (hl pins s1 σ H1 _ I1 q1) fun vl s2 ⟨l,H2,I2,pl,q2⟩=>Cw (hu pins s2 σ H2 _ I2 q2) fun vu s3 ⟨u,H3,I3,pu,q3⟩=>?_);rw[evalPart_none];refine zCD ?_;have I4:Inv X pins σ H3 { s3 with heap:=s3.heap.push { cls:=.type "slice",data:=.fields #[vl,vu,.none] } }:=I3.kept (t':=s3.toks) fun b ob q=>zAd _ q;obtain⟨T,id,hT,ht,hg⟩:=hr pins { s3 with heap:=s3.heap.push { cls:=.type "slice",data:=.fields #[vl,vu,.none] } } σ H3 x v vl vu l u s3.heap.objs.size Q I4 r1 (Heap.IsSliceOf.new ..) pl pu q3;show wpAny (model X.prog X.w) X.A (subscriptTail e (.Slice lo hi none p2) v (.ref s3.heap.objs.size)) (EP X pins σ Q) X.xe { s3 with heap:=s3.heap.push { cls:=.type "slice",data:=.fields #[vl,vu,.none] } };exact tail_any (ops:=[.ref s3.heap.objs.size,v]) ht hT hg (by with_unfolding_all rfl)
def D8 (xs:List V) (lo hi:Option Int):List V:=(xs.drop (HT.sIx xs.length 0 lo)).take (HT.sIx xs.length xs.length hi-HT.sIx xs.length 0 lo)
theorem Zv (xs:List V) (lo hi:Option Int):(D8 xs lo hi).length<=xs.length:=by
 unfold D8;rw[zAx,zCA]
 lia
end
def GN (n:Nat) (i:Int):Option Nat:=if 0<=i then (if i<n then some i.toNat else none) else if -(n:Int)<=i then some (i+n).toNat else none
def Nf {α:Type} (xs:List α) (i:Int):Option α:=(GN xs.length i).bind fun j=>xs[j]?
theorem U2 {n:Nat} {i:Int} {j:Nat} (h:GN n i=some j):seqIndex? i n=some j/\j<n/\-(n:Int)<=i/\i<n:=by
 unfold GN at h;by_cases h0:0<=i
 ·rw[if_pos h0] at h
  by_cases h1:i<n
  ·rw[if_pos h1] at h
   have e:i.toNat=j:=Option.some.inj h;exact⟨by rw[seqIndex_of h0 h1,e],by lia,by lia,h1⟩
  ·rw[if_neg h1] at h; cases h
 ·rw[if_neg h0] at h
  by_cases h1 : -(n:Int)<=i
  ·rw[if_pos h1] at h
   have e:(i+n).toNat=j:=Option.some.inj h;exact⟨by rw[seqIndex_neg (by lia) h1,e],by lia,h1,by lia⟩
  ·rw[if_neg h1] at h; cases h
theorem Wf {α:Type} {xs:List α} {i:Int} {v:α} (h:Nf xs i=some v):∃ j,seqIndex? i xs.length=some j/\xs[j]?=some v/\j<xs.length/\-(xs.length:Int)<=i/\i<xs.length:=by
 unfold Nf at h;cases e:GN xs.length i with
 | none=>rw[e] at h; cases h
 | some j=>
  rw[e] at h;obtain⟨h1,h2,h3,h4⟩:=U2 e;exact⟨j,h1,h,h2,h3,h4⟩
theorem Ey {α:Type} {xs:List α} {j:Nat} {v:α} (h:xs[j]?=some v):Nf xs (j:Int)=some v:=by
 have hj:j<xs.length:=(zAi.mp h).1;have e:GN xs.length (j:Int)=some j:=by
  unfold GN;rw[if_pos (by lia),if_pos (by lia)]; simp
 unfold Nf; rw[e]; exact h
theorem DA {α:Type} (xs:List α) (v:α):Nf (xs++[v]) (-1)=some v:=by
 have hl:(xs++[v]).length=xs.length+1:=by simp
 have e:GN (xs++[v]).length (-1)=some xs.length:=by
  unfold GN;rw[hl,if_neg (by decide),if_pos (by lia)]
  congr 1
  lia
 unfold Nf;rw[e];show (xs++[v])[xs.length]?=some v;simp
def FQ (b:Expr):Prop:=∀ o i,subscripted b false o i=operate [o,i] (getItem o i)
def KO (X:Cx) (r:R2):Prop:=
 ∀ (value slice:Expr) (pins:List (Addr×Obj)) (s:Shared) (σ:St) (H:Hp) (x y:V) (v u:Value) (Q:VK),Inv X pins σ H s->RelV x v->RelV y u->r x y H Q ->
  subscripted slice false v u=operate [v,u] (getItem v u)->wpAny (model X.prog X.w) X.A (subscriptTail value slice v u) (EP X pins σ Q) X.xe s
def NO (X:Cx) (id:String) (r:V->List V->Hp->VK->Prop):Prop:=
 ∀ (pins:List (Addr×Obj)) (s:Shared) (σ:St) (H:Hp) (x:V) (xs:List V) (v:Value) (us:List Value) (Q:VK),Inv X pins σ H s->RelV x v->Vals xs us->r x xs H Q ->
  wpAny (model X.prog X.w) X.A (call (.builtin id) (v::us)) (EP X pins σ Q) X.xe s
section
variable {X:Cx} {a b:Expr} {ta tb:TE} {pos:Pos}
theorem Bh {r:R2} (hr:KO X r) (ha:PE X a ta) (hb:PE X b tb) (hs:FQ b):PE X (.Subscript a b pos) (MY r ta tb):=by
 intro pins s σ H Q I h;exact Subscript_ (IO ha hb I h fun v u s2 x y H2 I2 rx ry q=>hr a b pins s2 σ H2 x y v u Q I2 rx ry q (hs _ _))
def LW (K:zAa):R2:=fun x y H Q=>∃ p xs i v,x = .ref p/\y = .int i/\SqL K H p xs/\Nf xs i=some v/\Q v H
def MO (K:zAa):R2:=fun x y H Q=>∃ p xs i v,x = .ref p/\y = .int i/\SqT K H p xs/\Nf xs i=some v/\Q v H
def NK:R2:=fun x y H Q=>∃ z i c,x = .str z/\y = .int i/\z.length<=sizeLine/\Nf z.cps.toList i=some c/\Q (.str ⟨#[c]⟩) H
theorem Bp:KO X (LW X.K):=by
 intro value slice pins s σ H x y v u Q I rx ry h hs;obtain⟨p,xs,i,z,rfl,rfl,hq,he,q⟩:=h;cases rx;obtain⟨t,rfl⟩:=ry;obtain⟨its,r,pl,hz⟩:=I.list hq;obtain⟨j,h1,h2,h3,h4,h5⟩:=Wf he;obtain⟨w,ew,rw'⟩:=r.get h2;have hl:=r.length;have hn:=Lj;have fin:EP X pins σ Q w s:=⟨z,H,I,rw',q⟩;by_cases h0:0<=i
 ·have hj:i.toNat=j:=by
   rw[seqIndex_of h0 h5] at h1;exact Option.some.inj h1
  exact item_listR pl.isList h0 (by lia) (by rw[hj]; simpa using ew) fin hs
 ·have hj:(i+(its.toArray.size:Int)).toNat=j:=by
   rw[seqIndex_neg (by lia) h4] at h1;rw[zAh,<- hl];exact Option.some.inj h1
  exact subscriptTail_builtinR (x:=w) pl.isList.typeIs slot_list_getitem.lookup
   (wpAny_getItem_list_neg (Q:=fun r s'=>r=w/\EP X pins σ Q r s') pl.isList (by lia) (by rw[zAh] <;> lia) (by lia) (by rw[hj]; simpa using ew) ⟨rfl,fin⟩) hs
theorem Bq:KO X (MO X.K):=by
 intro value slice pins s σ H x y v u Q I rx ry h hs;obtain⟨p,xs,i,z,rfl,rfl,hq,he,q⟩:=h;cases rx;obtain⟨t,rfl⟩:=ry;obtain⟨its,r,pl,hz⟩:=I.tuple hq;obtain⟨j,h1,h2,h3,h4,h5⟩:=Wf he;obtain⟨w,ew,rw'⟩:=r.get h2;have hl:=r.length;have hn:=Lj;have fin:EP X pins σ Q w s:=⟨z,H,I,rw',q⟩;exact subscriptTail_builtinR (x:=w) pl.typeIs slot_tuple_getitem.lookup
  (getItem_tuple (j:=j) (Q:=fun r s'=>r=w/\EP X pins σ Q r s') pl (by lia) (by lia) (by rw[zAh,<- hl]; exact h1) (by simpa using ew) ⟨rfl,fin⟩) hs
theorem DU:KO X NK:=by
 intro value slice pins s σ H x y v u Q I rx ry h hs;obtain⟨z,i,c,rfl,rfl,hz,he,q⟩:=h;obtain⟨t,rfl⟩:=rx;obtain⟨t',rfl⟩:=ry;obtain⟨j,h1,h2,h3,h4,h5⟩:=Wf he;have hl:z.cps.toList.length=z.length:=by simp [Str.length]
 rw[hl] at h1 h4 h5;have hn:=Lj;exact tail_any (typeIs_str s z t) slot_str_getitem.lookup (getItem_str (c:=c) (by
  have e1:decide (i < -(2^63:Int))=false:=decide_eq_false (by lia);have e2:decide (i≥2^63)=false:=decide_eq_false (by lia);rw[e1,e2,Bool.or_false]) (by rw[h1]; simpa using h2) ⟨.str ⟨#[c]⟩,H,I.tok _,⟨_,rfl⟩,q⟩) hs
theorem N5 (its:List Value) (n j:Nat) (u:Value):Obj.mapSeq (·.setIfInBounds j u) { cls:=.type "list",data:=.seq its.toArray n }={ cls:=.type "list",data:=.seq (its.set j u).toArray n }:=by
 simp [Obj.mapSeq]
theorem Inv.lst {pins:List (Addr×Obj)} {σ:St} {H:Hp} {s:Shared} {p:Addr} {xs:List V} (I:Inv X pins σ H s) (h:H p=some (.lst xs)) :
  ∃ (its:List Value) (n:Nat),Vals xs its/\s.heap.get? p=some { cls:=.type "list",data:=.seq its.toArray n }/\xs.length<=sizeLine:=by
 obtain⟨z,its,n,r,e⟩:=I.hok p _ h;exact⟨its,n,r,e,z⟩
theorem Inv.lstUpd {pins:List (Addr×Obj)} {σ:St} {H:Hp} {s:Shared} {p:Addr} {xs ys:List V} {its its':List Value} {n n':Nat} {f:Obj->Obj} (I:Inv X pins σ H s) (h:H p=some (.lst xs))
  (ho:s.heap.get? p=some { cls:=.type "list",data:=.seq its.toArray n }) (hf:f { cls:=.type "list",data:=.seq its.toArray n }={ cls:=.type "list",data:=.seq its'.toArray n' }) (r:Vals ys its') (hz:ys.length<=sizeLine) (t:Nat) :
  Inv X pins σ (upd H p (.lst ys)) { s with heap:=s.heap.update p f,toks:=t }:=by
 have e:(s.heap.update p f).get? p=some { cls:=.type "list",data:=.seq its'.toArray n' }:=by
  rw[zBX f ho (by rw[hf] <;> rfl),hf]
 refine I.write (x:=p) (e:=p) (by rw[h]; trivial) (.inl rfl) (fun b u hb q=>(zBQ _ _ (Ne.symm hb)).trans q) ⟨_,e⟩ ?_;exact⟨hz,its',n',r,e⟩
def KY:V->V->V->Hp->(Hp->Prop)->Prop:=fun o i v H Q=>∃ p xs k j,o = .ref p/\i = .int k/\H p=some (.lst xs)/\GN xs.length k=some j/\Q (upd H p (.lst (xs.set j v)))
theorem BN:ME X KY:=by
 intro pins s σ H o i v ov iv u Q I ro ri rv h;obtain⟨p,xs,k,j,rfl,rfl,hp,hj,q⟩:=h;cases ro;obtain⟨t,rfl⟩:=ri;obtain⟨its,n,r,ho,hz⟩:=I.lst hp;obtain⟨h1,h2,h3,h4⟩:=U2 hj;have hl:=r.length;have hn:=Lj;have I':Inv X pins σ (upd H p (.lst (xs.set j v))) { s with heap:=s.heap.update p (Obj.mapSeq (·.setIfInBounds j u)) }:=
  I.lstUpd hp ho (N5 its n j u) (r.set rv j) (by rw[List.length_set]; exact hz) s.toks
 by_cases h0:0<=k
 ·have hk:k.toNat=j:=by
   rw[seqIndex_of h0 h4] at h1;exact Option.some.inj h1
  exact PySem.W.ki_setAt ho h0 (by lia) (by rw[zAh,<- hl]; exact h4) (by rw[hk]; exact⟨_,I',q⟩)
 ·have hk:(k+(its.toArray.size:Int)).toNat=j:=by
   rw[seqIndex_neg (by lia) h3] at h1;rw[zAh,<- hl];exact Option.some.inj h1
  exact PySem.W.ki_setBack ho (by lia) (by rw[zAh,<- hl]; exact h3) (by lia) (by rw[hk]; exact⟨_,I',q⟩)
theorem Wj (lo hi:Option Int) (n:Nat):(sliceBounds lo hi none n).1=((HT.sIx n 0 lo:Nat):Int)/\(sliceBounds lo hi none n).2.1=((HT.sIx n n hi:Nat):Int)/\(sliceBounds lo hi none n).2.2=1:=by
 refine⟨?_,?_,rfl⟩
 ·cases lo with
  | none=>simp [sliceBounds,HT.sIx]
  | some i=>
   simp only [sliceBounds,HT.sIx,Option.getD_none,show (1:Int)>0 by decide,if_true];by_cases h:i<0
   ·simp only [h,if_true] <;> lia
   ·simp only [h,if_false] <;> lia
 ·cases hi with
  | none=>simp [sliceBounds,HT.sIx]
  | some i=>
   simp only [sliceBounds,HT.sIx,Option.getD_none,show (1:Int)>0 by decide,if_true];by_cases h:i<0
   ·simp only [h,if_true] <;> lia
   ·simp only [h,if_false] <;> lia
theorem Tn (its:List Value) (lo hi:Option Int):slicePick its.toArray lo hi none=((its.drop (HT.sIx its.length 0 lo)).take (HT.sIx its.length its.length hi-HT.sIx its.length 0 lo)).toArray:=by
 obtain⟨h1,h2,h3⟩:=Wj lo hi its.toArray.size;unfold slicePick;rw[h1,h2,h3];simp only [sliceRange_one,pick_run,zAh] <;> rfl
def NI (K:zAa):V->Option Int->Option Int->Hp->VK->Prop:=fun x lo hi H Q=>∃ a xs,x = .ref a/\SqL K H a xs/\∀ p,H p=none->Q (.ref p) (upd H p (.lst (D8 xs lo hi)))
theorem Wb:PN X (NI X.K):=by
 intro pins s σ H x v vl vu lo hi sl Q I rx hs pl pu h;obtain⟨a,xs,rfl,hx,q⟩:=h;cases rx;obtain⟨its,r,ht,hz⟩:=I.list hx;have hlen:=r.length;refine⟨"list",_,slot_list_getitem.lookup,ht.isList.typeIs,?_⟩;refine wpAny_getItem_list_slice ht.isList hs pl pu .none (by simp) ?_ (by rw[zAh] <;> lia);rw[Tn,<- hlen];refine⟨.ref s.heap.objs.size,_,I.laid (t':=s.toks) (o:=.lst (D8 xs lo hi)) (fun b ob q=>zAd _ q) (zAl _) ?_,rfl,q _ (I.hok.fresh (zAl _))⟩;exact⟨zAG (Zv xs lo hi) hz,_,0,(r.drop (HT.sIx xs.length 0 lo)).take (HT.sIx xs.length xs.length hi-HT.sIx xs.length 0 lo),zAu _ rfl⟩
def Eo:V->Bool
 | .non=>true
 | .bl _=>true
 | .int _=>true
 | .str _=>true
 | _=>false
def Pq:V->V->Bool
 | .non,.non=>true
 | .bl a,.bl b=>a==b
 | .bl a,.int b=>(if a then 1 else 0)==b
 | .int a,.bl b=>a==(if b then 1 else 0)
 | .int a,.int b=>a==b
 | .str a,.str b=>a==b
 | _,_=>false
theorem N9 {A:Around} {s:Shared} {y x:V} {u v:Value} (ry:RelV y u) (rx:RelV x v) (fy:Eo y=true) (fx:Eo x=true):SeqAt.EqAt A s u v (Pq y x):=by
 cases y with
 | non=>
  cases ry
  cases x with
  | non=>cases rx; exact SeqAt.EqAt.same _
  | bl b=>cases rx; exact SeqAt.EqAt.none_bool b
  | int b=>obtain⟨t,rfl⟩:=rx; exact SeqAt.EqAt.none_int b t
  | str b=>obtain⟨t,rfl⟩:=rx; exact SeqAt.EqAt.none_str b t
  | _=>exact absurd (show false=true from fx) zAm
 | bl a=>
  cases ry
  cases x with
  | non=>cases rx; exact SeqAt.EqAt.bool_none a
  | bl b=>cases rx; exact SeqAt.EqAt.bool_bool a b
  | int b=>obtain⟨t,rfl⟩:=rx; exact SeqAt.EqAt.bool_int a b t
  | str b=>obtain⟨t,rfl⟩:=rx; exact SeqAt.EqAt.bool_str a b t
  | _=>exact absurd (show false=true from fx) zAm
 | int a=>
  obtain⟨t',rfl⟩:=ry;cases x with
  | non=>cases rx; exact SeqAt.EqAt.int_none a t'
  | bl b=>cases rx; exact SeqAt.EqAt.int_bool a t' b
  | int b=>obtain⟨t,rfl⟩:=rx; exact SeqAt.EqAt.int_int a t' b t
  | str b=>obtain⟨t,rfl⟩:=rx; exact SeqAt.EqAt.int_str a t' b t
  | _=>exact absurd (show false=true from fx) zAm
 | str a=>
  obtain⟨t',rfl⟩:=ry;cases x with
  | non=>cases rx; exact SeqAt.EqAt.str_none a t'
  | bl b=>cases rx; exact SeqAt.EqAt.str_bool a t' b
  | int b=>obtain⟨t,rfl⟩:=rx; exact SeqAt.EqAt.str_int a t' b t
  | str b=>obtain⟨t,rfl⟩:=rx; exact SeqAt.EqAt.str_str a t' b t
  | _=>exact absurd (show false=true from fx) zAm
 | _=>exact absurd (show false=true from fy) zAm
def L3 (x:V) (u:Value):Bool:=match u with
 | .none=>Pq .non x
 | .bool b=>Pq (.bl b) x
 | .int i _=>Pq (.int i) x
 | .str z _=>Pq (.str z) x
 | _=>false
theorem BC {x y:V} {u:Value} (r:RelV y u) (f:Eo y=true):L3 x u=Pq y x:=by
 cases y with
 | non=>cases r; rfl
 | bl b=>cases r; rfl
 | int i=>obtain⟨t,rfl⟩:=r; rfl
 | str z=>obtain⟨t,rfl⟩:=r; rfl
 | _=>exact absurd (show false=true from f) zAm
theorem Mq {x:V}:∀ {xs:List V} {us:List Value},Vals xs us->xs.all Eo=true->us.any (L3 x)=xs.any fun y=>Pq y x
 | _,_,.nil,_=>rfl
 | y::xs,u::us,.cons r t,f=>by
  rw[zCy,zAv] at f;rw[zCz,zCz,BC r f.1,Mq t f.2]
theorem Kc {A:Around} {s:Shared} {x:V} {v:Value} (rx:RelV x v) (fx:Eo x=true):∀ {xs:List V} {us:List Value},Vals xs us->xs.all Eo=true->∀ u∈us,SeqAt.EqAt A s u v (L3 x u)
 | _,_,.nil,_=>fun u hu=>by cases hu
 | y::xs,u::us,.cons r t,f=>fun u' hu=>by
  rw[zCy,zAv] at f;rcases zAn.mp hu with rfl | hu
  ·rw[BC r f.1]; exact N9 r rx f.1 fx
  ·exact Kc rx fx t f.2 u' hu
def E5 (x:V) (xs:List V):Bool:=xs.any fun y=>Pq y x
def NJ (K:zAa) (neg:Bool):R2:=fun x y H Q=>∃ p xs,y = .ref p/\(SqL K H p xs\/SqT K H p xs)/\Eo x=true/\xs.all Eo=true/\Q (.bl (if neg then !E5 x xs else E5 x xs)) H
theorem Nq:Jm X (compareOp .In) (NJ X.K false):=by
 intro pins s σ H x y v u Q I rx ry h;obtain⟨p,xs,rfl,hq,fx,fs,q⟩:=h;cases ry;rcases hq with hq | hq
 ·obtain⟨its,r,pl,hz⟩:=I.list hq
  refine SeqAt.in_listAt (L3 x) pl.isList (fun w hw=>Kc rx fx r fs w (by simpa using hw)) ⟨.bl _,H,I,rfl,?_⟩;rw[show its.toArray.any (L3 x)=its.any (L3 x) by simp,Mq r fs];exact q
 ·obtain⟨its,r,pl,hz⟩:=I.tuple hq
  refine SeqAt.in_tupleAt (L3 x) pl (fun w hw=>Kc rx fx r fs w (by simpa using hw)) ⟨.bl _,H,I,rfl,?_⟩;rw[show its.toArray.any (L3 x)=its.any (L3 x) by simp,Mq r fs];exact q
theorem Xc:Jm X (compareOp .NotIn) (NJ X.K true):=by
 intro pins s σ H x y v u Q I rx ry h;obtain⟨p,xs,rfl,hq,fx,fs,q⟩:=h;cases ry;rcases hq with hq | hq
 ·obtain⟨its,r,pl,hz⟩:=I.list hq
  refine SeqAt.notIn_listAt (L3 x) pl.isList (fun w hw=>Kc rx fx r fs w (by simpa using hw)) ⟨.bl _,H,I,rfl,?_⟩;rw[show its.toArray.any (L3 x)=its.any (L3 x) by simp,Mq r fs];exact q
 ·obtain⟨its,r,pl,hz⟩:=I.tuple hq
  refine SeqAt.notIn_tupleAt (L3 x) pl (fun w hw=>Kc rx fx r fs w (by simpa using hw)) ⟨.bl _,H,I,rfl,?_⟩;rw[show its.toArray.any (L3 x)=its.any (L3 x) by simp,Mq r fs];exact q
theorem Xo:Jm X (compareOp .NotIn) (fun x y H Q=>∃ i j,x = .str i/\y = .str j/\Q (.bl (!(!(Builtin.Str.occurrences j i 0 j.length 1).isEmpty))) H):=by
 intro pins s σ H x y v u Q I rx ry h;obtain⟨i,j,rfl,rfl,q⟩:=h;obtain⟨t,rfl⟩:=rx;obtain⟨t',rfl⟩:=ry;exact notIn_str ⟨.bl _,H,I,rfl,q⟩
theorem Cc:Gc X (.builtin "len") (fun xs H Q=>∃ p ys,xs=[.ref p]/\(SqL X.K H p ys\/SqT X.K H p ys)/\Q (.int ys.length) H):=by
 intro pins s σ H xs us Q I r h;obtain⟨p,ys,rfl,hq,q⟩:=h;obtain⟨u,rfl,rx⟩:=Jb r;cases rx;have hn:=Lj;rcases hq with hq | hq
 ·obtain⟨its,r',pl,hz⟩:=I.list hq
  have hlen:=r'.length;exact Calls.call_len_list pl.isList (by simp only [zAh] <;> lia) ⟨.int ys.length,H,I.tok _,⟨s.toks+1,by rw[zAh,hlen]⟩,q⟩
 ·obtain⟨its,r',pl,hz⟩:=I.tuple hq
  have hlen:=r'.length;exact len_tuple pl (by simp only [zAh] <;> lia) ⟨.int ys.length,H,I.tok _,⟨s.toks+1,by rw[zAh,hlen]⟩,q⟩
theorem Xm:Gc X (.builtin "len") (fun xs H Q=>∃ z,xs=[.str z]/\z.length<=sizeLine/\Q (.int z.length) H):=by
 intro pins s σ H xs us Q I r h;obtain⟨z,rfl,hz,q⟩:=h;obtain⟨u,rfl,t,rfl⟩:=Jb r;have hn:=Lj;exact len_str (by lia) ⟨.int z.length,H,I.tok _,⟨_,rfl⟩,q⟩
theorem Dp:Gc X (.type "list") (fun xs H Q=>∃ p ys,xs=[.ref p]/\(SqL X.K H p ys\/SqT X.K H p ys)/\∀ l,H l=none->Q (.ref l) (upd H l (.lst ys))):=by
 intro pins s σ H xs us Q I r h;obtain⟨p,ys,rfl,hq,q⟩:=h;obtain⟨u,rfl,rx⟩:=Jb r;cases rx;have fin:∀ (its:List Value),Vals ys its->ys.length<=sizeLine->∀ (h':Heap) (c':Nat),(∀ b o',s.heap.get? b=some o'->h'.get? b=some o') ->
   h'.get? s.heap.objs.size=some { cls:=.type "list",dict:=none,data:=.seq its.toArray c',slots := #[] }->EP X pins σ Q (.ref s.heap.objs.size) { s with heap:=h' }:=fun its r' hz h' c' kp e=>
  ⟨.ref s.heap.objs.size,_,I.laid (t':=s.toks) kp (zAl _) (show ObjOk X.prog X.w _ h' _ (.lst ys) from ⟨hz,its,c',r',e⟩),rfl,q _ (I.hok.fresh (zAl _))⟩
 rcases hq with hq | hq
 ·obtain⟨its,r',pl,hz⟩:=I.list hq
  have hlen:=r'.length;obtain⟨o,ho,hc,n,hd⟩:=pl.isList;exact call_list_seq p (.inl rfl) ho hc hd (fun h' c' kp e=>fin its r' hz h' c' kp e) (by simp only [zAh] <;> lia)
 ·obtain⟨its,r',pl,hz⟩:=I.tuple hq
  have hlen:=r'.length;obtain⟨o,ho,hc,n,hd⟩:=pl;exact call_list_seq p (.inr rfl) ho hc hd (fun h' c' kp e=>fin its r' hz h' c' kp e) (by simp only [zAh] <;> lia)
def OM (K:zAa) (T:String) (x:V) (H:Hp):Prop:=match x with
 | .str _=>T = "str"
 | .int _=>T = "int"
 | .ref p=>(T = "list"/\∃ xs,SqL K H p xs)\/(T = "tuple"/\∃ o,K.lookup p=some o/\o.cls = .type "tuple"/\o.dict=none) \/
   (T = "dict"/\((∃ kvs,H p=some (.dK kvs))\/∃ kvs,H p=some (.dT kvs)))\/(T = "set"/\∃ S n,H p=some (.set S n))
 | _=>False
theorem BB {pins:List (Addr×Obj)} {σ:St} {H:Hp} {s:Shared} {T:String} {x:V} {v:Value} (I:Inv X pins σ H s) (r:RelV x v) (ty:OM X.K T x H) :
  s.TypeIs v T/\∀ a,v = .ref a->∃ ob,s.heap.get? a=some ob/\ob.dict=none:=by
 cases x with
 | str z=>
  obtain⟨t,rfl⟩:=r;cases (show T = "str" from ty);exact⟨typeIs_str s z t,fun _ e=>nomatch e⟩
 | int i=>
  obtain⟨t,rfl⟩:=r;cases (show T = "int" from ty);exact⟨typeIs_int s i t,fun _ e=>nomatch e⟩
 | ref p=>
  cases r
  rcases ty with ⟨rfl,xs,hq⟩ | ⟨rfl,o,hk,hc,hd⟩ | ⟨rfl,hk⟩ | ⟨rfl,S,n,hk⟩
  ·obtain⟨its,_,pl,_⟩:=I.list hq
   refine⟨pl.isList.typeIs,fun a e=>?_⟩;cases e;obtain⟨o,n,e,c,hd,_⟩:=pl;exact⟨o,e,hd⟩
  ·refine⟨⟨o,I.kIn p o hk,hc⟩,fun a e=>?_⟩
   cases e
   exact⟨o,I.kIn _ o hk,hd⟩
  ·have z:∃ o,s.heap.get? p=some o/\o.ExactDict:=by
    rcases hk with ⟨kvs,hk⟩ | ⟨kvs,hk⟩
    ·obtain⟨_,_,_,_,o,_,_,e,ex,_⟩:=I.hok p _ hk
     exact⟨o,e,ex⟩
    ·obtain⟨_,_,_,_,o,_,_,e,ex,_⟩:=I.hok p _ hk
     exact⟨o,e,ex⟩
   obtain⟨o,e,ex⟩:=z;refine⟨⟨o,e,ex.1⟩,fun a e2=>?_⟩;cases e2;exact⟨o,e,ex.2.1⟩
  ·obtain⟨o,_,_,_,e,ex,_⟩:=I.hok p _ hk
   refine⟨⟨o,e,ex.1⟩,fun a e2=>?_⟩;cases e2;exact⟨o,e,ex.2.1⟩
 | _=>exact False.elim ty
def OA (K:zAa) (T:String) (r:V->List V->Hp->VK->Prop) (to:TE):TE:=fun σ H Q=>to σ H fun x H1=>OM K T x H1/\r x [] H1 Q
def QI (K:zAa) (T:String) (r:V->List V->Hp->VK->Prop) (to:TE) (t:TA):TE:=fun σ H Q=>to σ H fun x H1=>OM K T x H1/\t σ H1 fun xs H2=>r x xs H2 Q
variable {o e:Expr} {es:List Expr} {to:TE} {t:TA} {name:Str} {apos cpos:Pos} {T id:String} {r:V->List V->Hp->VK->Prop}
theorem KD (pa:PlainAttrs T) (slot:Slot T name id) (hty:typeOf (.builtin id)=pure (.type "method_descriptor")) (hm:NO X id r) (ho:PE X o to)
  (hbase:attributeBase o name X.env (eval o X.env)=eval o X.env:=by rfl) (hline:(apos.endLine==cpos.line)=true:=by rfl):PE X (.Call (.Attribute o name apos) [] [] cpos) (OA X.K T r to):=by
 intro pins s σ H Q I h;refine wpAny_Call_method0_late hbase hline (Cw (ho pins s σ H _ I h) fun v s1 ⟨x,H1,I1,r1,ty,q1⟩=>?_);obtain⟨h1,h2⟩:=BB I1 r1 ty;exact⟨T,id,pa,slot,hty,h1,h2,Calls.callWith_builtin rfl (PySem.evalArgs_none (hm pins s1 σ H1 x [] v [] Q I1 r1 .nil q1))⟩
theorem Gk (pa:PlainAttrs T) (slot:Slot T name id) (hty:typeOf (.builtin id)=pure (.type "method_descriptor")) (hm:NO X id r) (ho:PE X o to) (ha:PA X (e::es) t)
  (hbase:attributeBase o name X.env (eval o X.env)=eval o X.env:=by rfl)
  (hfew:((backTo cpos (starEach (e::es) X.env)).all (fun x => !x.1)&&(backToKw cpos (keywordEach [] X.env)).all (fun x=>x.1.isSome)
   && decide ((e::es).length+([]:List Keyword).length+(if ([]:List Keyword).isEmpty then 0 else 1)<30))=true:=by rfl)
  (hline:(apos.endLine==cpos.line)=true:=by rfl) (hs:starEach (e::es) X.env=(false,eval e X.env)::starEach es X.env:=by rfl) (hplain:(backTo cpos (starEach es X.env)).any (·.1)=false:=by rfl) :
  PE X (.Call (.Attribute o name apos) (e::es) [] cpos) (QI X.K T r to t):=by
 intro pins s σ H Q I h;refine wpAny_Call_method_late hbase hfew hline rfl (Cw (ho pins s σ H _ I h) fun v s1 ⟨x,H1,I1,r1,ty,q1⟩=>?_);obtain⟨h1,h2⟩:=BB I1 r1 ty;refine⟨T,id,pa,slot,hty,h1,h2,?_⟩;have hA:=ha cpos pins s1 σ H1 _ I1 q1;rw[hs] at hA ⊢;refine Calls.callWith_builtin (by show (false||(backTo cpos (starEach es X.env)).any (·.1))=false; rw[hplain] <;> rfl) (Calls.evalArgs_plain ?_);exact Cw hA fun us s2 ⟨vs,H2,I2,r2,q2⟩=>hm pins s2 σ H2 x vs v us Q I2 r1 r2 q2
/- xs.append(e),list.index on a module's tuple .. are NO facts of 06m -/
end
def MU (X:Cx) (id:String) (r:V->List V->Hp->VK->Prop):Prop:=
 ∀ (pins:List (Addr×Obj)) (s:Shared) (σ:St) (H:Hp) (x:V) (xs:List V) (v:Value) (us:List Value) (Q:VK),Inv X pins σ H s->RelV x v->Vals xs us->r x xs H Q ->
  wpAny (model X.prog X.w) X.A (call (.builtin id) (v::us)) (EP X pins σ Q) X.xe s
theorem Vals.one:∀ {x:V} {us:List Value},Vals [x] us->∃ u,us=[u]/\RelV x u
 | _,_,.cons r .nil=>⟨_,rfl,r⟩
theorem Vals.zero:∀ {us:List Value},Vals [] us->us=[]
 | _,.nil=>rfl
theorem Vals.dropLast {xs:List V} {us:List Value} (h:Vals xs us):Vals xs.dropLast us.dropLast:=by
 induction h with
 | nil=>exact .nil
 | cons r t ih=>
  cases t with
  | nil=>exact .nil
  | cons q t'=>exact .cons r ih
theorem Vals.reverse {xs:List V} {us:List Value} (h:Vals xs us):Vals xs.reverse us.reverse:=by
 induction h with
 | nil=>exact .nil
 | cons r t ih=>rw[List.reverse_cons,List.reverse_cons]; exact Vals.append ih (.cons r .nil)
theorem Vals.rep {xs:List V} {us:List Value} (h:Vals xs us):∀ k:Nat,Vals (zAz k xs).flatten (zAz k us).flatten
 | 0=>.nil
 | k+1=>by
  rw[zBr,zBr,zBv,zBv];exact Vals.append h (Vals.rep h k)
theorem O3 {α:Type} (l:List α):l.eraseIdx (l.length-1)=l.dropLast:=by
 induction l with
 | nil=>rfl
 | cons a r ih=>
  cases r with
  | nil=>rfl
  | cons b r=>
   have e:(a::b::r).length-1=((b::r).length-1)+1:=by
    have h1:(a::b::r).length=r.length+2:=rfl;have h2:(b::r).length=r.length+1:=rfl
    lia
   rw[e,List.eraseIdx_cons_succ,ih]
   all_goals rfl
section
variable {X:Cx} {pins:List (Addr×Obj)} {σ:St} {H:Hp} {s:Shared} {l b:Addr} {xs ys zs:List V}
theorem Inv.lset {its its':List Value} {n:Nat} {f:Array Value->Array Value} {t':Nat} (I:Inv X pins σ H s) (hH:H l=some (.lst xs))
  (e:s.heap.get? l=some { cls:=.type "list",data:=.seq its.toArray n }) (hf:f its.toArray=its'.toArray) (hv:Vals ys its') (hz:ys.length<=sizeLine) :
  Inv X pins σ (upd H l (.lst ys)) { s with heap:=s.heap.update l (Obj.mapSeq f),toks:=t' }:=by
 have q:=PySem.IsL.update e f;rw[hf] at q;refine I.write (x:=l) (e:=l) (by rw[hH]; exact trivial) (.inl rfl) (fun b' u hb hu=>(zBQ s.heap (Obj.mapSeq f) (Ne.symm hb)).trans hu) ⟨_,q⟩ ?_;exact⟨hz,its',_,hv,q⟩
theorem Inv.lnew {its:List Value} {t':Nat} (I:Inv X pins σ H s) (hv:Vals ys its) (hz:ys.length<=sizeLine) :
  Inv X pins σ (upd H s.heap.objs.size (.lst ys)) { s with heap:=s.heap.push { cls:=.type "list",data:=.seq its.toArray },toks:=t' }:=
 I.laid (fun _ _ q=>zAd _ q) (zAl _) ⟨hz,its,0,hv,zAu _ rfl⟩
theorem Inv.fresh (I:Inv X pins σ H s):H s.heap.objs.size=none:=I.hok.fresh (zAl _)
theorem Inv.lstM (I:Inv X pins σ H s) (hH:H l=some (.lst xs)):xs.length<=sizeLine/\∃ (its:List Value) (n:Nat),Vals xs its/\xs.length=its.length/\s.heap.get? l=some { cls:=.type "list",data:=.seq its.toArray n }:=by
 obtain⟨z,its,n,r,e⟩:=I.hok l _ hH;exact⟨z,its,n,r,r.length,e⟩
theorem Yz {n:Nat} (h:n<=sizeLine):Builtin.List.listTooLong n=false:=by
 unfold Builtin.List.listTooLong;exact decide_eq_false (by lia)
end
section
variable {X:Cx}
def FL:V->List V->Hp->VK->Prop:=fun x vs H Q=>∃ l xs y,x = .ref l/\vs=[y]/\H l=some (.lst xs)/\xs.length<sizeLine/\Q .non (upd H l (.lst (xs++[y])))
theorem Do:MU X "list.append" FL:=by
 intro pins s σ H x vs v us Q I rx rv h;obtain⟨l,xs,y,rfl,rfl,hH,hz,q⟩:=h;cases rx;obtain⟨u,rfl,ru⟩:=rv.one;obtain⟨z,its,n,r,hl,e⟩:=I.lstM hH;refine call_meets F.slot_list_append ⟨_,e,rfl⟩ F.entry_list_append (F.args_list_append_2 _ _) (PySem.list_append l its.toArray n u (by rw[zAh]; lia)) ⟨e,?_⟩;refine⟨.non,_,I.lset (its':=its++[u]) hH e (by simp) (r.append (.cons ru .nil)) ?_,rfl,q⟩;rw[zAo,List.length_singleton]
 lia
def HJ:V->List V->Hp->VK->Prop:=fun x vs H Q=>∃ l b xs zs,x = .ref l/\vs=[.ref b]/\H l=some (.lst xs)/\H b=some (.lst zs)/\xs.length+zs.length<=sizeLine/\Q .non (upd H l (.lst (xs++zs)))
theorem Kj:MU X "list.extend" HJ:=by
 intro pins s σ H x vs v us Q I rx rv h;obtain⟨l,b,xs,zs,rfl,rfl,hH,hB,hz,q⟩:=h;cases rx;obtain⟨u,rfl,ru⟩:=rv.one;cases ru;obtain⟨z,its,n,r,hl,e⟩:=I.lstM hH;obtain⟨z2,its2,n2,r2,hl2,e2⟩:=I.lstM hB;have hsz:its.toArray.size+its2.toArray.size<=sizeLine:=by rw[zAh,zAh]; lia
 have hlong:¬ (!its.toArray.isEmpty&&Builtin.List.listTooLong (its.toArray.size+its2.toArray.size))=true:=by
  rw[Yz hsz,zBY];exact zAm
 refine call_meets F.slot_list_extend ⟨_,e,rfl⟩ F.entry_list_extend (F.args_list_extend_2 _ _)
  (AutoSeq1.list_extend_list_list_0 l its.toArray n b its2.toArray n2 hlong (by rw[zAh]; lia) (by lia)) ⟨e,e2,?_⟩
 refine⟨.non,_,I.lset (its':=its++its2) hH e (by simp) (r.append r2) ?_,rfl,q⟩;rw[zAo]
 lia
def OP:V->List V->Hp->VK->Prop:=fun x vs H Q=>∃ l xs y,x = .ref l/\vs=[]/\H l=some (.lst xs)/\xs[xs.length-1]?=some y/\Q y (upd H l (.lst xs.dropLast))
theorem JP:MU X "list.pop" OP:=by
 intro pins s σ H x vs v us Q I rx rv h;obtain⟨l,xs,y,rfl,rfl,hH,hy,q⟩:=h;cases rx;have hus:=rv.zero;subst hus;obtain⟨z,its,n,r,hl,e⟩:=I.lstM hH;obtain⟨u,hu,ru⟩:=r.get hy;have hy':its.toArray[its.toArray.size-1]?=some u:=by
  show its.toArray[its.length-1]?=some u;rw[<- zBh,<- hl];exact hu
 refine call_meets F.slot_list_pop ⟨_,e,rfl⟩ F.entry_list_pop (F.args_list_pop_1 _) (MeetsSeq.list_pop_last l its.toArray n u hy' (by rw[zAh]; lia)) ⟨e,?_⟩;refine⟨y,_,I.lset (its':=its.dropLast) hH e ?_ r.dropLast ?_,ru,q⟩
 ·show its.toArray.eraseIdxIfInBounds (its.toArray.size-1)=its.dropLast.toArray
  rw[zAh,List.eraseIdxIfInBounds_toArray,O3]
 ·rw[List.length_dropLast]
  lia
def ON:R2:=fun x y H Q=>∃ l b xs zs,x = .ref l/\y = .ref b/\H l=some (.lst xs)/\H b=some (.lst zs)/\xs.length+zs.length<=sizeLine/\∀ p,H p=none->Q (.ref p) (upd H p (.lst (xs++zs)))
theorem Kb:Jm X (binaryOp .Add) ON:=by
 intro pins s σ H x y v u Q I rx ry h;obtain⟨l,b,xs,zs,rfl,rfl,hH,hB,hz,q⟩:=h;cases rx;cases ry;obtain⟨z,its,n,r,hl,e⟩:=I.lstM hH;obtain⟨z2,its2,n2,r2,hl2,e2⟩:=I.lstM hB;refine PySem.P.add_list e e2 ?_ (by rw[zAh,zAh]; lia);have ea:its.toArray++its2.toArray=(its++its2).toArray:=by simp
 rw[ea];exact⟨.ref _,_,I.lnew (t':=s.toks) (r.append r2) (by rw[zAo]; lia),rfl,q _ I.fresh⟩
theorem GX {α:Type} (xs:List α) (k:Nat):(zAz k xs).flatten.length=k*xs.length:=by
 induction k with
 | zero=>simp
 | succ k ih=>rw[zBr,zBv,zAo,ih,Nat.succ_mul,Nat.add_comm]
end
section
variable {prog:Program} {w:World} {A:Around} {E:Value->Shared->Prop} {s:Shared}
end
section
variable {X:Cx}
end
end L2
namespace Att
open PySem PySem.W PySem.Calls PyProof.Rows
theorem Pj {P:Params} {h:Heap}:∀ (ns:List Int) (vs:List Value),WellAll P h vs (ns.map WData.int)->IntsAre vs ns:=by
 intro ns
 induction ns with
 | nil=>
  intro vs w;rw[zBW] at w;cases w;exact .nil
 | cons n ns ih=>
  intro vs w;rw[zAH] at w;cases w with
  | cons a b=>
   cases a
   exact .cons _ _ (ih _ b)
theorem Y1 {l:OpenLaw} {n:Nat} (hn:l.most=some n) {P:Params} {h:Heap} {args:List WData} {vals:List Value}
  (hpre:l.row.toRowW.claim.pre args=true) (hwl:WellAll P h vals args) :
  ∃ a vs ns,vals=[Value.ref a]/\args=[WData.list (ns.map WData.int)]/\h.get? a=some { cls:=.type "list",data:=.seq vs.toArray }/\IntsAre vs ns/\ns.length<=n:=by
 have hsh:WShape.hasAll [] args [.list .int]=true:=(pre_splitW hpre).1;have hc:l.pre.holds [] { args:=args }=true:=(pre_splitW hpre).2;obtain⟨d,r,rfl,h1,h2⟩:=hasAllW_cons hsh;obtain rfl:=hasAllW_nil h2;obtain⟨xs,rfl,h3⟩:=hasW_list h1;obtain⟨ns,rfl⟩:=items_int h3;have hlen:ns.length<=n:=by
  unfold OpenLaw.pre at hc;have h4:(WTm.not (.lt (.lit (.int (n:Int))) (.len (.arg 0)))).holds [] { args:=[.list (ns.map .int)] }=true:=by
   have h4:=(holds_andW hc).1;rw[hn] at h4;exact h4
  have h5:=condW_of h4 (w_not (w_lt w_lit (w_len_list (w_arg rfl))));rw[zAb] at h5;refine Nat.le_of_not_lt fun q=>?_;have q':(n:Int)<((ns.length:Nat):Int):=by lia
  first
   | (rw[decide_eq_true q'] at h5; exact absurd h5 (by decide))
   | (simp at h5; lia)
 cases hwl with
 | cons w1 w2=>
  cases w2
  cases w1 with
  | list ho hall=>exact⟨_,_,ns,rfl,rfl,ho,Pj ns _ hall,hlen⟩
theorem Y9 (l:OpenLaw) (args:List WData):l.row.toRowW.claim.post args (.bool true) args=true:=
 postW_of (r:=l.row.toRowW) (X:=(true==true))
  (show WShape.has [] (.bool true) .bool=true by first | rfl | decide | simp [WShape.has,WShape.arms,WShape.armsAll])
  (show (WTm.eq .res (.lit (.bool true))).value [] { args:=args,res:=some (.bool true),after:=args }=some (.bool (true==true)) from w_eq_bool (w_res rfl) w_lit) rfl
theorem attach_call {l:OpenLaw} {n:Nat} {q:Program} {loose:List Str} {XP:(Str->Option Value)->Heap->Prop} {YP:World->Heap->Prop} {d:DefRec}
  (hn:l.most=some n) (hdf:d.params.defaults=[])
  (call:∀ (w:World) (s₀ s₁ : Shared) (mg mb:Str->Option Value) (fa:Addr) (o:Obj) (pm cd doc:Value) (a:Addr) (vs:List Value) (ns:List Int),
   Ground q loose [] XP w s₀ mg mb s₁.heap->YP w s₁.heap ->
   s₁.heap.get? fa=some o->o.data = .func (docDef d.name d.params d.body d.scope pm cd doc)->s₁.heap.CodeRec cd d.name->mg d.name=some (.ref fa) ->
   s₁.heap.get? a=some { cls:=.type "list",data:=.seq vs.toArray }->IntsAre vs ns->ns.length<=n->s₁.gens = #[] ->
   codeAny (model l.prog w) callerA (.call (.ref fa) ⟨[.ref a],[]⟩) (fun r s'=>r = .ok (.ret (.bool true))/\OldK s₁.heap s'.heap/\s'.os=s₁.os/\AllBare s'.gens) s₁) :
  WalkO q loose XP YP l.row.toRowW d [] (fun f vs=>PySem.call f vs):=by
 intro w s₀ s₁ mg mb G Y fa o pm cd doc dV kV ho hd hcd hD hmg hg args vals as hpre hlay hrd hwl hlo;obtain rfl:dV = .none:=Dflts.none hD hdf;obtain rfl:kV = .none:=Dflts.noKw hD;obtain⟨a,vs,ns,rfl,rfl,hobj,hints,hlen⟩:=Y1 hn hpre hwl;refine enter_call (codeAny_mono (call w s₀ s₁ mg mb fa o pm cd doc a vs ns G Y ho (fd_plain hd) hcd hmg hobj hints hlen hg) fun r s' hq=>?_);obtain⟨rfl,h2,h3,h4⟩:=hq;exact⟨.inl ⟨.bool true,.bool true,[],rfl,fun _=>rfl,.bool true,Y9 l _,fun _=>⟨List.Pairwise.nil,fun _ hm=>(nomatch hm)⟩⟩,h2,h3,h4⟩
section
variable {prog:Program} {w:World} {A:Around} {E:Value->Shared->Prop} {s:Shared} {K:Frag}
end
end Att
namespace L2
open PySem PySem.Spec PyProof.Rows
theorem Va:∀ {vs:List Value} {ns:List Int},IntsAre vs ns->Vals (ns.map V.int) vs
 | _,_,.nil=>.nil
 | _,_,.cons n t h=>.cons ⟨t,rfl⟩ (Va h)
def JC (H:Hp):Prop:=∀ b,H b=none\/∃ o xs,H b=some (.frz o (.lst xs))
theorem EX {P:Program} {w:World} {K:zAa} {mg mb:Str->Option Value} {CX:W5} {k:Nat} {fa a:Addr} {fd:zCG} {x:Str} {sp:Sp} {s₁ : Shared} {vs:List Value} {ns:List Int}
  (KX:K.In s₁.heap) (hns:s₁.heap.Ns zCH mg) (hb:s₁.heap.Ns builtinsNs mb) (hbb:∀ x:Str,x ≠ "__name__" -> mb x=zCF x) (hlim:s₁.heap.NoLimit) (hg:s₁.gens = #[])
  (ha:s₁.heap.get? a=some { cls:=.type "list",data:=.seq vs.toArray }) (hi:IntsAre vs ns) (hl:ns.length<=sizeLine) (hr:Room k callerA)
  (F:∀ base:Heap,K.In base->base.Ns zCH mg->FnOk P w K mg base CX k fa fd [x] sp) (hbind:∀ (s:Shared) (u:Value),BindsTo s fd ⟨[u],[]⟩ [(x,u)])
  (hsp:∀ H:Hp,JC H->SqL K H a (ns.map V.int)->sp [.ref a] H (fun v _=>v = .bl true) fun _ _ _=>False)
  (hCX:∀ H e s',CX [] H s₁ (fun _ _ _=>False) e s'->False) :
  codeAny (model P w) callerA (.call (.ref fa) ⟨[.ref a],[]⟩) (fun r s'=>r = .ok (.ret (.bool true))/\OldK s₁.heap s'.heap/\s'.os=s₁.os/\AllBare s'.gens) s₁ := by
 have rv:=Va hi;have lenV:=hi.length;have core:∀ H:Hp,JC H->SqL K H a (ns.map V.int)->HOk P w H s₁.heap->(∀ b,H b≠none->b=a)->(H a≠none->K.lookup a=none) ->
   codeAny (model P w) callerA (.call (.ref fa) ⟨[.ref a],[]⟩) (fun r s'=>r = .ok (.ret (.bool true))/\OldK s₁.heap s'.heap/\s'.os=s₁.os/\AllBare s'.gens) s₁ := by
  intro H hO hS hok hA hK;have base_of:∀ {b:Addr} {o:Obj},s₁.heap.get? b=some o->H b=none->(Ym s₁.heap H).get? b=some o:=fun e n=>EJ e n;have noA:∀ {b:Addr} {o:Obj} {es:Array DictEntry} {ep:Nat},s₁.heap.get? b=some o->o.data = .dict es ep->H b=none:=fun {b o es ep} e d=>by
   cases q:H b with
   | none=>rfl
   | some u=>
    have e':b=a:=hA b (by rw[q]; simp);subst e';rw[ha] at e; cases e;have d':Data.seq vs.toArray _=Data.dict es ep:=d;cases d'
  have nsK:∀ {b:Addr} {m:Str->Option Value},s₁.heap.Ns b m->(Ym s₁.heap H).Ns b m:=fun {b m} ⟨o,es,ep,e,d,r⟩=>⟨o,es,ep,base_of e (noA e d),d,r⟩;have hKb:K.In (Ym s₁.heap H):=fun b o e=>base_of (KX b o e) (by
   cases q:H b with
   | none=>rfl
   | some u=>
    have e':b=a:=hA b (by rw[q]; simp);subst e';rw[hK (by rw[q]; simp)] at e; cases e)
  have hM:Mod K mg (Ym s₁.heap H):=⟨hKb,nsK hns,⟨mb,nsK hb,hbb⟩,let ⟨mc,h1,h2⟩:=hlim; ⟨mc,nsK h1,h2⟩⟩;have e0:Env0 P w K mg (Ym s₁.heap H) callerA [] s₁ H:=⟨rfl,hM,fun b o e=>HD e,Nat.le_of_eq (Y2 _ _),trivial,fun b hb=>absurd (show b∈([]:List Addr) from hb) (by simp),hok,.of_eq hg⟩;refine codeAny_mono ((F _ hKb (nsK hns)).run callerA [] s₁ H ⟨[.ref a],[]⟩ [.ref a] [.ref a] _ _ hr e0 (hbind s₁ (.ref a)) (.cons rfl .nil) (hsp H hO hS)) fun r s' h=>?_;cases r with
  | error e=>exact (hCX H e s' h).elim
  | ok fl=>
   cases fl with
   | next=>exact False.elim h
   | brk=>exact False.elim h
   | cont=>exact False.elim h
   | ret u=>
    obtain⟨v,H',os,bare,un,hok',r',q⟩:=h;have q':v = .bl true:=q;subst q';obtain rfl:u=Value.bool true:=r';refine⟨rfl,OldK.of_keep fun b o e=>?_,os,bare⟩;cases q:H b with
    | none=>exact un.keep b o e q (by intro z; exact absurd (show b∈([]:List Addr) from z) (by simp)) (by simp)
    | some u=>
     rcases hO b with z | ⟨ob,xs,z⟩
     ·rw[q] at z; cases z
     ·have z2:=un.frzs b ob _ z
      obtain⟨e1,_⟩:=hok b _ z;obtain⟨e2,_⟩:=hok' b _ z2;rw[e] at e1; cases e1;exact e2
 cases hk:K.lookup a with
 | some o=>
  have e:=KX a o hk;rw[ha] at e;cases e;refine core (fun _=>none) (fun _=>.inl rfl) (.inr ⟨_,vs.toArray,_,hk,rfl,rfl,rfl,by rw[zAh,lenV]; exact hl,by simpa using rv⟩) (fun b u z=>by have z':(none:Option HO)=some u:=z; cases z') (fun b z=>absurd rfl z) fun z=>absurd rfl z
 | none=>
  refine core (fun b=>if b=a then some (.frz { cls:=.type "list",data:=.seq vs.toArray } (.lst (ns.map V.int))) else none) (fun b=>?_) (.inl (.inr ⟨{ cls:=.type "list",data:=.seq vs.toArray },if_pos rfl⟩)) (fun b u z=>?_) (fun b z=>?_) fun _=>hk
  ·by_cases hb:b=a
   ·exact .inr ⟨_,_,if_pos hb⟩
   ·exact .inl (if_neg hb)
  ·by_cases hb:b=a
   ·have z':=(if_pos hb).symm.trans z
    cases z'
    subst hb;exact⟨ha,by rw[zAb]; exact hl,vs,_,rv,ha⟩
   ·have z':=(if_neg hb).symm.trans z
    cases z'
  ·by_cases hb:b=a
   ·exact hb
   ·exact absurd (if_neg hb) z
theorem walk_of {l:PySem.W.OpenLaw} {n k:Nat} {q:Program} {loose:List Str} {XP:(Str->Option Value)->Heap->Prop} {YP:World->Heap->Prop} {d:DefRec} {K:Params->zAa} {CX:World->W5} {sp:World->Sp} {x:Str}
  (hn:l.most=some n) (hn2:n<=sizeLine) (hdf:d.params.defaults=[]) (hr:Room k callerA)
  (hY:∀ (w:World) (h:Heap),YP w h->(K w.params).In h)
  (F:∀ (w:World) (mg:Str->Option Value) (fa:Addr) (h:Heap),(K w.params).In h->h.Ns zCH mg->mg d.name=some (.ref fa) ->
   ∃ fd:zCG,(∀ (s:Shared) (u:Value),BindsTo s fd ⟨[u],[]⟩ [(x,u)]) /\
    ∀ base:Heap,(K w.params).In base->base.Ns zCH mg->FnOk l.prog w (K w.params) mg base (CX w) k fa fd [x] (sp w))
  (hsp:∀ (w:World) (H:Hp) (a:Addr) (ns:List Int),ns.length<=n->JC H->SqL (K w.params) H a (ns.map V.int)->sp w [.ref a] H (fun v _=>v = .bl true) fun _ _ _=>False)
  (hCX:∀ (w:World) (H:Hp) (s:Shared) (e:Value) (s':Shared),CX w [] H s (fun _ _ _=>False) e s'->False) :
  PySem.W.WalkO q loose XP YP l.row.toRowW d [] (fun f vs=>PySem.call f vs):=by
 refine Att.attach_call hn hdf fun w s₀ s₁ mg mb fa o pm cd doc a vs ns G Y ho hd hcd hmg hobj hints hlen hg=>?_;have KX:=hY w _ Y;obtain⟨fd,hb,hF⟩:=F w mg fa _ KX G.T.g hmg;exact EX KX G.T.g G.T.b G.T.builtins G.T.nolimit hg hobj hints (zAG hlen hn2) hr hF hb (fun H hO hS=>hsp w H a ns hlen hO hS) fun H e s'=>hCX w H s₁ e s'
end L2
/- THE LAST THEOREM (shape; LID,My.* are yours):
   My.Adr: a structure of the addresses that your layer names (classes,functions); My.Txt K t: a structure (Prop) of the equations over K;
   My.txt_mk:{K} {implicit addresses ..} (e1:nsIn K zCH "law" = some (some (.ref f))) (e2:K.lookup f=some ⟨oc,od,.func (fnOf "law" "law" params body scope dV kV doc pm an cdv ct),sl⟩) (e3:codeIn K cdv "law" = true) .. : ∃ t,My.Txt K t
set_option tactic.hygienic true in
theorem PySem.Challenge.cw_LID_holds : PySem.Challenge.rw_LID.Holds := by
 w_on; o_law; k_head; (case hw=>w_witness2)
 k_fill
 refine L2.walk_of (l:=PySem.Challenge.rw_LID) (n:=63) (k:=40) (x := "script") (CX:=fun w=>..) (sp:=fun _=>My.sp_law) rfl (by decide) rfl ⟨rfl,by decide,by decide⟩ (fun w h Y=>PySem.W.kIn_of Y) ?F ?S ?C
 case F=>
  intro w mg fa h KX G hmg;have T:∃ t,My.Txt (L2.KOf KX) t:=by
   dsimp only [L2.KOf]                          -- K must stand as «<heap const> w.params» for k_is
   refine' My.txt_mk ?e1 ?e2 ?e3 ..
   (case e1=>PySem.W.k_is)                    -- in the order: a name -> its address -> its object -> its parts
   (case e2=>PySem.W.k_is)
   ..
  obtain⟨t,T⟩:=T;have e0:=hmg.symm.trans (zAB KX G T.law);cases e0                                       -- fa is the law's own address;exact⟨_,fun s u=>.of_eq rfl,fun base kb nb=>My.law_fn T kb nb⟩     -- if «.of_eq rfl» comes too early: refine' ⟨_,?b,fun base kb nb=>My.law_fn T kb nb⟩; exact fun s u=>.of_eq rfl
 case S=>exact fun w H a ns hl hO hS=>..
 case C=>exact ..
(the tactic k_is has no namespace: write k_is) -/
namespace L2
open PySem PySem.Spec PyProof.Rows
def Bv (s:Stmt) (j:Nat):Stmt:=match s with
 | .ClassDef _ _ _ body _ _ _ _ _ _ _=>body.getD j (.Pass ⟨0,0,0,0⟩)
 | _=>.Pass ⟨0,0,0,0⟩
def Dk (s:Stmt):Arguments:=match s with
 | .FunctionDef _ a _ _ _ _ _ _ _ _=>a
 | _=>{ posonlyargs:=[],args:=[],vararg:=none,kwonlyargs:=[],kw_defaults:=[],kwarg:=none,defaults:=[] }
def Df (s:Stmt):List Stmt:=match s with
 | .FunctionDef _ _ b _ _ _ _ _ _ _=>b
 | _=>[]
def As (s:Stmt):Scope:=match s with
 | .FunctionDef _ _ _ _ _ _ sc _ _ _=>sc
 | _=>{ kind:=.function,names:=[],isGenerator:=false,isCoroutine:=false }
abbrev Da:W5:=fun _ _ _ _ _ _=>False
abbrev E0:XK:=fun _ _ _=>False
theorem Vh {X:Cx}:Ls Da X E0:=fun _ _ _ _ _ _ _ h=>h.elim
structure Fun (K:zAa) (x qual:Str) (st:Stmt) (f:Addr) (fd:zCG):Prop where
 ex:∃ (oc:Value) (od:Option Addr) (kV doc pm:Value) (an:Option Addr) (cdv ct:Value) (osl:Array (Option Value)),
  fd=zAW x qual (Dk st) (Df st) (As st) .none kV doc pm an cdv ct/\K.lookup f=some ⟨oc,od,.func fd,osl⟩/\zBo K cdv qual=true
 kp:zAT K (.ref f)=true
section
variable {P:Program} {w:World} {K:zAa} {mg:Str->Option Value} {base:Heap}
theorem Fun.ok {x qual:Str} {st:Stmt} {f:Addr} {fd:zCG} {N ps:List Str} {k:Nat} {sp:Sp} (F:Fun K x qual st f fd) (S:Bd N ps (As st)) (len:∀ vs H Q E,sp vs H Q E->vs.length=ps.length)
  (hbody:∀ (cdv:Value) (A:Around) (outer:List Env) (s:Shared) (H:Hp) (vs:List V) (Q:VK) (E:XK),Room k (A.deeper (envOfC qual (As st) s.heap.objs.size f cdv))->sp vs H Q E ->
   ∃ t,PSs (F8 Da P w K mg base N qual (As st) f cdv A outer s H E).nox (Df st) t/\t { nx:=fun _ H'=>Q .non H',rt:=Q } (Mo N vs) H):FnOk P w K mg base Da (k+1) f fd ps sp:=by
 obtain⟨oc,od,kV,doc,pm,an,cdv,ct,osl,rfl,lk,hcd⟩:=F.ex;refine IA lk hcd S len fun A outer s H vs Q E hr hsp=>?_;obtain⟨t,h,q⟩:=hbody cdv A outer s H vs Q E hr hsp;exact⟨t,h.nox,q⟩
theorem Fun.binds {x qual:Str} {st:Stmt} {f:Addr} {fd:zCG} {ps:List Str} (F:Fun K x qual st f fd)
  (h:∀ (kV doc pm:Value) (an:Option Addr) (cdv ct:Value) (us:List Value),us.length=ps.length->bindArgs (zAW x qual (Dk st) (Df st) (As st) .none kV doc pm an cdv ct) ⟨us,[]⟩=pure (ps.zip us)):Binds K fd ps []:=by
 obtain⟨oc,od,kV,doc,pm,an,cdv,ct,osl,rfl,lk,hcd⟩:=F.ex;exact .all (h kV doc pm an cdv ct)
theorem N1 {x qual:Str} {st:Stmt} {f:Addr} {oc:Value} {od an:Option Addr} {osl:Array (Option Value)} {kV doc pm cdv ct:Value} (l:K.lookup f=some ⟨oc,od,.func (zAW x qual (Dk st) (Df st) (As st) .none kV doc pm an cdv ct),osl⟩)
  (c:zBo K cdv qual=true) (k:zAT K (.ref f)=true):Fun K x qual st f (zAW x qual (Dk st) (Df st) (As st) .none kV doc pm an cdv ct):=⟨⟨oc,od,kV,doc,pm,an,cdv,ct,osl,rfl,l,c⟩,k⟩
end
theorem V1 {A:Around} {k:Nat} (hr:Room k A):A.units+1<cLine:=zCq (Nat.add_le_add_left (by decide:1<=64) _) hr.units
theorem X0 {n:Nat} (h:n<=1000):n<sizeLine:=zCq h (by decide)
section
variable {X:Cx}
theorem pv (i:Nat) {x:Str} {pos:Pos} (hN:X.N[i]?=some x:=by rfl) (hv:NM X.env.scope x:=by first | exact Or.inl rfl | exact Or.inr (Or.inl rfl) | exact Or.inr (Or.inr rfl)) (hd:(x==("__debug__" : Str))=false:=by decide)
  (hcd:(x==("__classdict__" : Str))=false:=by decide):PE X (.Name x pos) (MD i):=JM hN hv hd hcd
end
theorem Dq {A B:Prop} (h:B):if false=true then A else B:=by
 rw[if_neg zAm];exact h
theorem Kn {A B:Prop} (h:A):if true=true then A else B:=by
 rw[if_pos rfl];exact h
theorem Ss {c A B:Prop} [Decidable c] (h1:c->A) (h2:¬ c->B):if c then A else B:=by
 by_cases h:c
 ·rw[if_pos h]
  exact h1 h
 ·rw[if_neg h]
  exact h2 h
def Same (H H':Hp):Prop:=∀ b o,H b=some o->H' b=some o
theorem Same.refl (H:Hp):Same H H:=fun _ _ h=>h
theorem Same.trans {H H1 H2:Hp} (a:Same H H1) (b:Same H1 H2):Same H H2:=fun c o h=>b c o (a c o h)
theorem Same.free {H H':Hp} (e:Same H H') {l:Addr} (h:H' l=Option.none):H l=Option.none:=by
 cases q:H l with
 | none=>rfl
 | some o=>
  rw[e l o q] at h;cases h
theorem Same.seq {K:zAa} {H H':Hp} {a:Addr} {xs:List V} (e:Same H H') (h:SqL K H a xs):SqL K H' a xs:=by
 rcases h with (h | ⟨o,h⟩) | h
 ·exact .inl (.inl (e _ _ h))
 ·exact .inl (.inr ⟨o,e _ _ h⟩)
 ·exact .inr h
section
variable {κ:Type} [DecidableEq κ]
def Es (kvs:List (κ×V)) (k:κ):Option V:=(kvs.find? fun kv=>decide (kv.1=k)).map (·.2)
def Gy (kvs:List (κ×V)) (k:κ) (v:V):List (κ×V):=
 if (kvs.any fun kv=>decide (kv.1=k))=true then kvs.map (fun kv=>if kv.1=k then (kv.1,v) else kv) else kvs++[(k,v)]
theorem Du {p:κ×V} {r:List (κ×V)} {k:κ} (e:p.1=k):Es (p::r) k=some p.2:=by simp [Es,zBM,e]
theorem Dv {p:κ×V} {r:List (κ×V)} {k:κ} (e:¬ p.1=k):Es (p::r) k=Es r k:=by simp [Es,zBM,e]
theorem Mm (k:κ):∀ kvs:List (κ×V),(kvs.any fun kv=>decide (kv.1=k))=(Es kvs k).isSome
 | []=>rfl
 | p::r=>by
  rw[zCz];by_cases e:p.1=k
  ·simp only [Du e,decide_eq_true e,Bool.true_or,Option.isSome_some]
  ·rw[Dv e,decide_eq_false e,Bool.false_or]; exact Mm k r
theorem D1 (k j:κ) (y:V):∀ kvs:List (κ×V),Es (kvs.map fun kv=>if kv.1=k then (kv.1,y) else kv) j=(Es kvs j).map fun x=>if j=k then y else x
 | []=>rfl
 | p::r=>by
  have ih:=D1 k j y r;rw[zAH];by_cases h:p.1=k
  ·rw[if_pos h]
   by_cases e:p.1=j
   ·rw[Du (p:=(p.1,y)) e,Du e,zCn,if_pos (e.symm.trans h)]
   ·rw[Dv (p:=(p.1,y)) e,Dv e,ih]
  ·rw[if_neg h]
   by_cases e:p.1=j
   ·rw[Du (p:=p) e,Du e,zCn,if_neg (fun z=>h (e.trans z))]
   ·rw[Dv (p:=p) e,Dv e,ih]
theorem Vr (k j:κ) (y:V):∀ kvs:List (κ×V),Es kvs k=none->Es (kvs++[(k,y)]) j=if j=k then some y else Es kvs j
 | [],_=>by
  by_cases e:k=j
  ·rw[if_pos e.symm]; exact Du (p:=(k,y)) e
  ·rw[if_neg (fun z=>e z.symm)]; exact Dv (p:=(k,y)) e
 | p::r,hn=>by
  rw[List.cons_append];have hk:¬ p.1=k:=fun z=>by rw[Du z] at hn; cases hn
  rw[Dv hk] at hn;have ih:=Vr k j y r hn;by_cases e:p.1=j
  ·rw[Du e,Du e,if_neg (fun z=>hk (e.trans z))]
  ·rw[Dv e,Dv e,ih]
theorem C7 (kvs:List (κ×V)) (k j:κ) (y:V):Es (Gy kvs k y) j=if j=k then some y else Es kvs j:=by
 unfold Gy;by_cases a:(kvs.any fun kv=>decide (kv.1=k))=true
 ·rw[if_pos a,D1]
  rw[Mm] at a;by_cases e:j=k
  ·obtain⟨x,hx⟩:=Option.isSome_iff_exists.mp a
   rw[if_pos e,e,hx,zCn,if_pos rfl]
  ·rw[if_neg e]
   cases Es kvs j with
   | none=>rfl
   | some x=>rw[zCn,if_neg e]
 ·rw[if_neg a]
  refine Vr k j y kvs ?_;rw[Mm] at a;cases q:Es kvs k with
  | none=>rfl
  | some x=>rw[q] at a; exact (a rfl).elim
theorem Jl (kvs:List (κ×V)) (k:κ) (v:V):(Gy kvs k v).length<=kvs.length+1:=by
 unfold Gy
 split
 ·rw[zAb]; lia
 ·rw[zAo,zAg,zCo]; lia
theorem RelO.isSome_eq {o:Option V} {u:Option Value} (r:RelO o u):o.isSome=u.isSome:=by
 cases o with
 | none=>cases u with
  | none=>rfl
  | some _=>exact (show False from r).elim
 | some _=>cases u with
  | none=>exact (show False from r).elim
  | some _=>rfl
theorem RelO.getD {o:Option V} {u:Option Value} {d:V} {d':Value} (r:RelO o u) (rd:RelV d d'):RelV (o.getD d) (u.getD d'):=by
 cases o with
 | none=>cases u with
  | none=>exact rd
  | some _=>exact (show False from r).elim
 | some _=>cases u with
  | none=>exact (show False from r).elim
  | some _=>exact r
theorem KV.val {kvs:List (κ×V)} {vs:List (κ×Value)} (r:KV kvs vs) (k:κ):RelO (Es kvs k) (valueAt vs k):=by
 unfold KV at r
 induction r with
 | nil=>exact True.intro
 | @cons p q ps qs h t ih=>
  obtain⟨h1,h2⟩:=h;by_cases e:p.1=k
  ·have e':q.1=k:=h1.symm.trans e
   have b:valueAt (q::qs) k=some q.2:=by simp [valueAt,zBM,e']
   rw[Du e,b]; exact h2
  ·have e':¬ q.1=k:=fun z=>e (h1.trans z)
   have b:valueAt (q::qs) k=valueAt qs k:=by simp [valueAt,zBM,e']
   rw[Dv e,b]; exact ih
theorem KV.any {kvs:List (κ×V)} {vs:List (κ×Value)} (r:KV kvs vs) (k:κ):(kvs.any fun kv=>decide (kv.1=k))=vs.any fun kv=>decide (kv.1=k):=by
 unfold KV at r
 induction r with
 | nil=>rfl
 | cons h t ih=>rw[zCz,zCz,ih,h.1]
theorem KV.repl {kvs:List (κ×V)} {vs:List (κ×Value)} (r:KV kvs vs) (k:κ) {y:V} {u:Value} (ry:RelV y u) :
  KV (kvs.map fun kv=>if kv.1=k then (kv.1,y) else kv) (vs.map fun kv=>if kv.1=k then (kv.1,u) else kv):=by
 unfold KV at r ⊢
 induction r with
 | nil=>exact .nil
 | @cons p q ps qs h t ih=>
  rw[zAH,zAH];refine .cons ?_ ih;obtain⟨h1,h2⟩:=h;by_cases e:p.1=k
  ·rw[if_pos e,if_pos (h1.symm.trans e)]; exact⟨h1,ry⟩
  ·rw[if_neg e,if_neg (fun z=>e (h1.trans z))]; exact⟨h1,h2⟩
theorem KV.put {kvs:List (κ×V)} {vs:List (κ×Value)} (r:KV kvs vs) (k:κ) {y:V} {u:Value} (ry:RelV y u):KV (Gy kvs k y) (stored vs k u):=by
 unfold Gy stored;rw[r.any k];by_cases e:(vs.any fun kv=>decide (kv.1=k))=true
 ·rw[if_pos e,if_pos e]; exact r.repl k ry
 ·rw[if_neg e,if_neg e]; exact Paired.snoc r ⟨rfl,ry⟩
theorem KV.length {kvs:List (κ×V)} {vs:List (κ×Value)} (r:KV kvs vs):kvs.length=vs.length:=Paired.length r
end
theorem CQ {P:Program} {w:World} {k:Dt} {u:Value} (r:RelV (kV k) u):(Dl P w).is k u=true:=by
 cases k with
 | inl i=>obtain⟨t,e⟩:=(show ∃ t,u=Value.int i t from r); subst e; exact Zs P w i t
 | inr x=>obtain⟨t,e⟩:=(show ∃ t,u=Value.str x t from r); subst e; exact Ys P w x t
theorem Vf {P:Program} {w:World}:∀ {ks:List Dt} {us:List Value},Vals (ks.map kV) us->ItemsAre (Dl P w) ks us
 | [],_,r=>by rw[zBW] at r; cases r; exact .nil
 | k::ks,_,r=>by
  rw[zAH] at r;cases r with
  | cons h t=>exact .cons (CQ h) (Vf t)
abbrev KT (H:Hp):List (List Dt×V)->List (List Dt×Addr×Value)->Prop:=Paired fun p q=>p.1=q.1/\H q.2.1=some (.tup (p.1.map kV))/\RelV p.2 q.2.2
theorem KT.val {H:Hp} {kvs:List (List Dt×V)} {xs:List (List Dt×Addr×Value)} (r:KT H kvs xs) (k:List Dt):RelO (Es kvs k) ((atKey xs k).map (·.2)):=by
 induction r with
 | nil=>exact True.intro
 | @cons p q ps qs h t ih=>
  obtain⟨h1,_,h2⟩:=h;by_cases e:p.1=k
  ·have e':q.1=k:=h1.symm.trans e
   have b:atKey (q::qs) k=some q.2:=by simp [atKey,zBM,e']
   rw[Du e,b]; exact h2
  ·have e':¬ q.1=k:=fun z=>e (h1.trans z)
   have b:atKey (q::qs) k=atKey qs k:=by simp [atKey,zBM,e']
   rw[Dv e,b]; exact ih
theorem KT.repl {H:Hp} {kvs:List (List Dt×V)} {xs:List (List Dt×Addr×Value)} (r:KT H kvs xs) (k:List Dt) {y:V} {u:Value} (ry:RelV y u) :
  KT H (kvs.map fun kv=>if kv.1=k then (kv.1,y) else kv) (xs.map (putAt k u)):=by
 induction r with
 | nil=>exact .nil
 | @cons p q ps qs h t ih=>
  rw[zAH,zAH];refine .cons ?_ ih;obtain⟨h1,h2,h3⟩:=h;unfold putAt;by_cases e:p.1=k
  ·rw[if_pos e,if_pos (h1.symm.trans e)]; exact⟨h1,h2,ry⟩
  ·rw[if_neg e,if_neg (fun z=>e (h1.trans z))]; exact⟨h1,h2,h3⟩
theorem KT.put {H:Hp} {kvs:List (List Dt×V)} {xs:List (List Dt×Addr×Value)} (r:KT H kvs xs) (k:List Dt) {b:Addr} {y:V} {u:Value} (hb:H b=some (.tup (k.map kV))) (ry:RelV y u) :
  KT H (Gy kvs k y) (storedH xs k b u):=by
 have e:(kvs.any fun kv=>decide (kv.1=k))=(atKey xs k).isSome:=by
  rw[Mm,(r.val k).isSome_eq,Option.isSome_map]
 unfold Gy storedH;rw[e];by_cases q:(atKey xs k).isSome=true
 ·rw[if_pos q,if_pos q]; exact r.repl k ry
 ·rw[if_neg q,if_neg q]; exact Paired.snoc r ⟨rfl,hb,ry⟩
theorem KT.keeps {H H':Hp} {kvs:List (List Dt×V)} {xs:List (List Dt×Addr×Value)} (r:KT H kvs xs) (ht:∀ b ys,H b=some (.tup ys)->H' b=some (.tup ys)):KT H' kvs xs:=
 Paired.mapP r fun _ _ z=>⟨z.1,ht _ _ z.2.1,z.2.2⟩
section
variable {P:Program} {w:World} {H:Hp} {h:Heap} {a:Addr}
theorem HK {u:HO} (ok:HOk P w H h) (e:Rd H a u):ObjOk P w H h a u:=e.ok ok
theorem BI {kvs:List (Dt×V)} (ok:HOk P w H h) (e:Rd H a (.dK kvs)):kvs.length<=sizeLine/\(a==sysModules)=false/\∃ vs,KV kvs vs/\h.DictOf (Dl P w) a vs:=
 show ObjOk P w H h a (.dK kvs) from HK ok e
theorem KU {kvs:List (Dt×V)} (ok:HOk P w H h) (e:H a=some (.dK kvs)):kvs.length<=sizeLine/\(a==sysModules)=false/\∃ vs,KV kvs vs/\h.DictOf (Dl P w) a vs:=BI ok (.inl e)
theorem O5 {ks:List Dt} (ok:HOk P w H h) (e:H a=some (.tup (ks.map kV))):(tupleKind (Dl P w)).is h ks a:=by
 obtain⟨_,its,r,o,h1,h2,n,h3⟩:=(show ObjOk P w H h a (.tup (ks.map kV)) from ok a _ e);exact⟨o,its.toArray,n,h1,h2,h3,by simpa using Vf r⟩
theorem CS {kvs:List (List Dt×V)} (ok:HOk P w H h) (e:Rd H a (.dT kvs)):kvs.length<=sizeLine/\(a==sysModules)=false /\
  ∃ xs,KT H kvs xs/\h.DictOfH (tupleKind (Dl P w)) a xs:=by
 obtain⟨z,y,xs,r,o,es,ep,h1,h2,h3,h4,h5⟩:=(show ObjOk P w H h a (.dT kvs) from HK ok e);refine⟨z,y,xs,r,o,es,ep,h1,h2,h3,h4,fun x hx=>?_,h5⟩;have all:∀ {l:List (List Dt×V)} {m:List (List Dt×Addr×Value)},KT H l m->∀ x∈m,(tupleKind (Dl P w)).is h x.1 x.2.1:=by
  intro l m q
  induction q with
  | nil=>intro x hx; exact nomatch hx
  | @cons p q ps qs hq t ih=>
   intro x hx;rcases zAn.mp hx with e | hx
   ·subst e
    exact O5 ok (by rw[<- hq.1]; exact hq.2.1)
   ·exact ih x hx
 exact all r x hx
theorem MP {kvs:List (List Dt×V)} (ok:HOk P w H h) (e:H a=some (.dT kvs)):kvs.length<=sizeLine/\(a==sysModules)=false /\
  ∃ xs,KT H kvs xs/\h.DictOfH (tupleKind (Dl P w)) a xs:=CS ok (.inl e)
end
def DGet (H:Hp) (a:Addr) (y:V) (r:Option V):Prop:=
 (∃ kvs k,Rd H a (.dK kvs)/\y=kV k/\r=Es kvs k)\/∃ kvs k b,Rd H a (.dT kvs)/\y = .ref b/\H b=some (.tup (k.map kV))/\r=Es kvs k
def DPut (H:Hp) (a:Addr) (y v:V) (H':Hp):Prop:=
 (∃ kvs k,H a=some (.dK kvs)/\y=kV k/\kvs.length<sizeLine/\H'=upd H a (.dK (Gy kvs k v))) \/
 ∃ kvs k b,H a=some (.dT kvs)/\y = .ref b/\H b=some (.tup (k.map kV))/\kvs.length<sizeLine/\H'=upd H a (.dT (Gy kvs k v))
theorem DGet.t {H:Hp} {a b:Addr} {kvs:List (List Dt×V)} {k:List Dt} (e:H a=some (.dT kvs)) (eb:H b=some (.tup (k.map kV))):DGet H a (.ref b) (Es kvs k):=.inr ⟨kvs,k,b,.inl e,rfl,eb,rfl⟩
theorem DPut.t {H:Hp} {a b:Addr} {kvs:List (List Dt×V)} {k:List Dt} {v:V} (e:H a=some (.dT kvs)) (eb:H b=some (.tup (k.map kV))) (hl:kvs.length<sizeLine) :
  DPut H a (.ref b) v (upd H a (.dT (Gy kvs k v))):=.inr ⟨kvs,k,b,e,rfl,eb,hl,rfl⟩
section
variable {X:Cx} {pins:List (Addr×Obj)} {σ:St} {H:Hp} {s:Shared} {a:Addr} {y v:V} {u r:Value} {o:Option V} {A:Around} {E:Value->Shared->Prop}
theorem Inv.big (I:Inv X pins σ H s):sysModules<s.heap.objs.size:=by
 have h:zCH<s.heap.objs.size:=(I.mod.glob.keeps I.bk).lt;exact Nat.lt_trans (by decide) h
theorem V6 {h':Heap} {t':Nat} {ob:HO} (I:Inv X pins σ H s) (mu:MI (H a)) (hs:zAU a s.heap h') (he:∃ q,h'.get? a=some q) (new:ObjOk X.prog X.w (upd H a ob) h' a ob) :
  Inv X pins σ (upd H a ob) { s with heap:=h',toks:=t' }:=
 I.write (x:=a) (e:=a) mu (.inl rfl) (fun b q hb z=>(hs.2 b hb).trans z) he new
theorem IV {P:Program} {w:World} {H':Hp} {h':Heap} {kvs:List (Dt×V)} {vs:List (Dt×Value)} (z:kvs.length<=sizeLine) (hd:(a==sysModules)=false) (rel:KV kvs vs) (dd:h'.DictOf (Dl P w) a vs) :
  ObjOk P w H' h' a (.dK kvs):=⟨z,hd,vs,rel,dd⟩
theorem AJ {H':Hp} {Q:Unit->Shared->Prop} (hu:A.units+1<cLine) (I:Inv X pins σ H s) (g:DPut H a y v H') (ry:RelV y u) (rv:RelV v r) (h:∀ s',Inv X pins σ H' s'->Q () s') :
  wpAny (model X.prog X.w) A (setItem (.ref a) u r) Q E s:=by
 rcases g with ⟨kvs,k,e,ey,l,eH⟩ | ⟨kvs,k,b,e,ey,eb,l,eH⟩
 ·subst ey eH
  obtain⟨z,hd,vs,rel,dd⟩:=KU I.hok e;have hz:vs.length<=sizeLine:=by rw[<- rel.length]; exact z
  have hl:(Gy kvs k v).length<=sizeLine:=by have:=Jl kvs k v; lia
  refine wpAny_setItem_pairs (hsz:=hz) (CQ ry) dd fun h' dd' hs=>h _ ?_;have he:∃ q,h'.get? a=some q:=let ⟨q,_,_,hq,_⟩:=dd'; ⟨q,hq⟩
  exact V6 I (by rw[e]; exact True.intro) hs he (IV hl hd (rel.put k rv) dd')
 ·subst ey eH
  cases (show u=Value.ref b from ry)
  obtain⟨z,hd,xs,rel,dd⟩:=MP I.hok e;have hz:xs.length<=sizeLine:=by rw[<- Paired.length rel]; exact z
  have hl:(Gy kvs k v).length<=sizeLine:=by have:=Jl kvs k v; lia
  refine wpAny_setItem_heap (hsz:=hz) (tupleKind_room_in1 hu) (O5 I.hok eb) dd fun h' dd' hs=>h _ ?_;obtain⟨q,es,ep,hq,h2,h3,h4,_,h5⟩:=dd';refine V6 I (by rw[e]; exact True.intro) hs ⟨q,hq⟩ ⟨hl,hd,_,(rel.put k eb rv).keeps fun c ys ec=>?_,q,es,ep,hq,h2,h3,h4,h5⟩;rw[Ar (Iz ec e (fun z=>nomatch z))];exact ec
end
section
variable {X:Cx} {pins:List (Addr×Obj)} {σ:St} {H:Hp} {s:Shared} {a:Addr} {kvs:List (Dt×V)} {k:Dt} {u:Value} {A:Around} {E:Value->Shared->Prop}
end
def LJ (td ty tv:TE):TS:=fun D σ H=>tv σ H fun v H1=>td σ H1 fun x H2=>ty σ H2 fun y H3=>∃ a H4,x = .ref a/\DPut H3 a y v H4/\D.nx σ H4
section
variable {X:Cx} {o i e value:Expr} {pos pos' tpos:Pos} {td ty tv:TE}
theorem U3 (hu:X.A.units+1<cLine) (ho:PE X o td) (hi:PE X i ty) (hv:PE X value tv) (hs:swapsWith value (some (.Subscript o i pos')) pos.line X.env=pure false) :
  PS X (.Assign [.Subscript o i pos'] value pos) (LJ td ty tv):=by
 intro pins s σ H D I h;refine wpAny_Assign_Subscript (Cw (hv pins s σ H _ I h) fun r s1 ⟨v,H1,I1,rv,q1⟩=>Cw (ho pins s1 σ H1 _ I1 q1) fun u s2 ⟨x,H2,I2,rx,q2⟩=>Cw (hi pins s2 σ H2 _ I2 q2) fun iv s3 ⟨y,H3,I3,ry,a,H4,ex,g,q3⟩=>?_) hs;subst ex;obtain rfl:u=Value.ref a:=rx;exact AJ hu I3 g ry rv fun s4 I4=>⟨σ,H4,I4,q3⟩
end
theorem BF {P:Program} {w:World} {H:Hp} (h:Heap) (hb:sysModules<h.objs.size):ObjOk P w H (h.push { cls:=.type "dict",data:=.dict #[] }) h.objs.size (.dT []):=
 ⟨zAD _,beq_eq_false_iff_ne.mpr (Ne.symm (zAw hb)),[],.nil,_,#[],0,zAu _ rfl,⟨rfl,rfl,rfl⟩,rfl,rfl,zCt⟩
def IW:TE:=fun _ H Q=>∀ p,H p=none->Q (.ref p) (upd H p (.dT []))
section
variable {X:Cx} {pos:Pos}
theorem Yw:PE X (.Dict [] [] pos) IW:=fun pins s σ H Q I h=>
 wpAny_Dict_empty ⟨.ref s.heap.objs.size,_,I.laid (a:=s.heap.objs.size) (o:=.dT []) (t':=s.toks) (fun _ _ q=>zAd _ q) (zAl _) (BF s.heap I.big),rfl,h _ (I.hok.fresh (zAl _))⟩
end
structure M2 (X:Cx) (o:Expr) (m:Str) (apos:Pos) (e f:Expr) (cpos:Pos):Prop where
 base:attributeBase o m X.env (eval o X.env)=eval o X.env
 few:((backTo cpos (starEach [e,f] X.env)).all (fun x => !x.1)&&(backToKw cpos (keywordEach [] X.env)).all (fun x=>x.1.isSome)
  && decide (([e,f]:List Expr).length+([]:List Keyword).length+(if ([]:List Keyword).isEmpty then 0 else 1)<30))=true
 line:(apos.endLine==cpos.line)=true
 trees:backTo cpos (starEach [e,f] X.env)=[(false,eval e X.env),(false,eval f X.env)]
def PL (H:Hp) (a:Addr):Prop:=(∃ kvs,Rd H a (.dK kvs))\/∃ kvs,Rd H a (.dT kvs)
theorem EV {X:Cx} {pins:List (Addr×Obj)} {σ:St} {H:Hp} {s:Shared} {a:Addr} (I:Inv X pins σ H s) (d:PL H a) :
  s.TypeIs (.ref a) "dict"/\(∀ b,Value.ref a = .ref b->∃ ob,s.heap.get? b=some ob/\ob.dict=none)/\(a==sysModules)=false:=by
 rcases d with ⟨kvs,e⟩ | ⟨kvs,e⟩
 ·obtain⟨_,hd,vs,_,dd⟩:=BI I.hok e
  refine⟨dd.typeIs,fun b q=>?_,hd⟩;cases q;obtain⟨ob,_,_,h1,h2,_⟩:=dd;exact⟨ob,h1,h2.2.1⟩
 ·obtain⟨_,hd,xs,_,dd⟩:=CS I.hok e
  refine⟨dd.typeIs,fun b q=>?_,hd⟩;cases q;obtain⟨ob,_,_,h1,h2,_⟩:=dd;exact⟨ob,h1,h2.2.1⟩
section
variable {X:Cx} {pins:List (Addr×Obj)} {σ:St} {H:Hp} {s:Shared} {a:Addr} {y d:V} {u r:Value} {o:Option V} {A:Around} {E:Value->Shared->Prop}
theorem JI {Q:Value->Shared->Prop} (hu:A.units+1<cLine) (I:Inv X pins σ H s) (g:DGet H a y o) (ry:RelV y u) (rd:RelV d r) (h:∀ w' s',Inv X pins σ H s'->RelV (o.getD d) w'->Q w' s') :
  wpAny (model X.prog X.w) A (call (.builtin "dict.get") [.ref a,u,r]) Q E s:=by
 rcases g with ⟨kvs,k,e,ey,l⟩ | ⟨kvs,k,b,e,ey,eb,l⟩
 ·subst ey
  obtain⟨z,hd,vs,rel,dd⟩:=BI I.hok e;refine call_meetsIn PySem.F.slot_dict_get dd.typeIs PySem.F.entry_dict_get (PySem.F.args_dict_get_3 _ _ _) (meets_dict_get_default (Dl X.prog X.w) a (CQ ry) hd r) ⟨_,dd.mapOf,h _ _ (I.tok _) ?_⟩;rw[l];exact (rel.val k).getD rd
 ·subst ey
  cases (show u=Value.ref b from ry)
  obtain⟨z,hd,xs,rel,dd⟩:=CS I.hok e;refine call_meetsIn PySem.F.slot_dict_get dd.typeIs PySem.F.entry_dict_get (PySem.F.args_dict_get_3 _ _ _) (meetsH_dict_get_default (tupleKind (Dl X.prog X.w)) a b hd r) ⟨tupleKind_room_in1 hu,k,xs,O5 I.hok eb,dd,h _ _ (I.tok _) ?_⟩;rw[l];exact (rel.val k).getD rd
end
def JK (td ty tx:TE):TE:=fun σ H Q=>td σ H fun x H1=>∃ a,x = .ref a/\PL H1 a/\ty σ H1 fun y H2=>tx σ H2 fun z H3=>∃ o,DGet H3 a y o/\Q (o.getD z) H3
section
variable {X:Cx} {o e f:Expr} {apos cpos:Pos} {td ty tx:TE}
theorem EA (hu:X.A.units+1<cLine) (ho:PE X o td) (he:PE X e ty) (hf:PE X f tx) (m:M2 X o "get" apos e f cpos):PE X (.Call (.Attribute o "get" apos) [e,f] [] cpos) (JK td ty tx):=by
 intro pins s σ H Q I h;refine wpAny_Call_method m.base m.few m.line PySem.F.plainAttrs_dict PySem.F.slot_dict_get PySem.F.type_dict_get (Cw (ho pins s σ H _ I h) fun u s1 ⟨x,H1,I1,rx,a,ex,d,q1⟩=>?_);subst ex;obtain rfl:u=Value.ref a:=rx;obtain⟨t1,t2,_⟩:=EV I1 d;refine⟨t1,t2,?_⟩;rw[m.trees];refine Calls.callWith_builtin rfl (Calls.evalArgs_plain (Calls.spliced_cons (Cw (he pins s1 σ H1 _ I1 q1) fun iv s2 ⟨y,H2,I2,ry,q2⟩=>
  Calls.spliced_cons (Cw (hf pins s2 σ H2 _ I2 q2) fun fv s3 ⟨z,H3,I3,rz,ov,g,q3⟩=>Calls.spliced_nil ?_))))
 exact JI hu I3 g ry rz fun w' s4 I4 rw'=>⟨_,H3,I4,rw',q3⟩
end
section
variable {X:Cx} {pins:List (Addr×Obj)} {σ:St} {H:Hp} {s:Shared} {a:Addr} {kvs:List (Dt×V)} {A:Around} {E:Value->Shared->Prop}
end
section
variable {X:Cx} {pins:List (Addr×Obj)} {σ:St} {H:Hp} {s:Shared} {a:Addr} {y:V} {u:Value} {A:Around} {E:Value->Shared->Prop}
end
section
variable {X:Cx}
end
section
variable {κ:Type} [DecidableEq κ]
end
def V9 (cells:List (Str×Addr)):List (Str×NameKind)->List (Str×Addr)->List (Str×Addr)
 | [],cs=>cs
 | (n,k)::r,cs=>V9 cells r (if k==NameKind.free then (match cells.lookup n with | some a=>(n,a)::cs | none=>cs) else cs)
theorem Zc {env:Env}:∀ (names:List (Str×NameKind)) (cs:List (Str×Addr)),(∀ y∈names,y.2 = .free->∃ c,env.cells.lookup y.1=some c) ->
  (forIn names cs fun (x:Str×NameKind) (r:List (Str×Addr))=>if (x.2==NameKind.free)=true then (do let a <- cellOf env x.1; pure (ForInStep.yield ((x.1,a)::r))) else (pure (ForInStep.yield r):Sem (ForInStep (List (Str×Addr)))))
   = (pure (V9 env.cells names cs):Sem (List (Str×Addr)))
 | [],cs,_=>rfl
 | (n,k)::r,cs,h=>by
  have ih:=Zc (env:=env) r;rw[List.forIn_cons];unfold V9;cases hk:(k==NameKind.free) with
  | false=>
   simp only [zBN,if_false];show (forIn r cs _:Sem _)=_;exact ih cs fun y hy=>h y (zAf _ hy)
  | true=>
   obtain⟨c,hc⟩:=h (n,k) zAj (by simpa using hk);have hc':env.cells.lookup n=some c:=hc;have e:cellOf env n=pure c:=by unfold cellOf; rw[hc']
   simp only [if_true,e,hc'];show (forIn r ((n,c)::cs) _:Sem _)=_;exact ih _ fun y hy=>h y (zAf _ hy)
theorem EO {scope:Scope} {env:Env} (h:∀ y∈scope.names,y.2 = .free->∃ c,env.cells.lookup y.1=some c):closureFor scope env=pure (V9 env.cells scope.names []):=by
 unfold closureFor;have q:=Zc (env:=env) scope.names [] h;refine Eq.trans ?_ (congrArg (fun z:Sem (List (Str×Addr))=>z >>= fun cs=>pure cs) q);rfl
set_option tactic.hygienic true in
theorem Q3 {cells:List (Str×Addr)}:∀ (names:List (Str×NameKind)) (cs:List (Str×Addr)),(∀ p∈cs,cells.lookup p.1=some p.2)->∀ p∈V9 cells names cs,cells.lookup p.1=some p.2
 | [],cs,h,p,hp=>h p hp
 | (n,k)::r,cs,h,p,hp=>by
  unfold V9 at hp;refine Q3 r _ (fun q hq=>?_) p hp
  split at hq
  ·split at hq
   ·rename_i a e
    rcases zAn.mp hq with rfl | hq
    ·exact e
    ·exact h q hq
   ·exact h q hq
  ·exact h q hq
theorem Ih {cells:List (Str×Addr)} {names:List (Str×NameKind)} {x:Str} {c:Addr} (e:(V9 cells names []).lookup x=some c):cells.lookup x=some c:=
 Q3 names [] (fun _ z=>nomatch z) (x,c) (PySem.mem_of_lookup e)
theorem Vw {cells:List (Str×Addr)}:∀ (names:List (Str×NameKind)) (cs:List (Str×Addr)) (p:Str×Addr),p∈cs->p∈V9 cells names cs
 | [],cs,p,hp=>hp
 | (n,k)::r,cs,p,hp=>by
  unfold V9;refine Vw r _ p ?_
  split
  ·split
   ·exact zAf _ hp
   ·exact hp
  ·exact hp
theorem Yj {cells:List (Str×Addr)} {x:Str} {c:Addr} (hc:cells.lookup x=some c):∀ (names:List (Str×NameKind)) (cs:List (Str×Addr)),(x,NameKind.free)∈names->(x,c)∈V9 cells names cs
 | [],_,h=>nomatch h
 | (n,k)::r,cs,h=>by
  unfold V9;rcases zAn.mp h with e | h
  ·cases e
   refine Vw r _ _ ?_;rw[hc];simp
  ·exact Yj hc r _ h
theorem Ek {x:Str} {c:Addr}:∀ {l:List (Str×Addr)},(x,c)∈l->∃ d,l.lookup x=some d
 | [],h=>nomatch h
 | (y,d)::r,h=>by
  rw[zBy];cases e:(x==y) with
  | true=>exact⟨d,rfl⟩
  | false=>
   rcases zAn.mp h with z | z
   ·cases z
    simp at e
   ·exact Ek z
theorem Iv {env:Env}:∀ {names:List (Str×NameKind)} {x:Str} {k:NameKind},
  (names.map fun (n,k)=>if (k==NameKind.free&&env.scope.kind == .function&&env.kindOf n==some .cell) then (n,NameKind.cell) else (n,k)).lookup x=some k ->
   names.lookup x=some k\/(k = .cell/\names.lookup x=some .free)
 | [],_,_,h=>by simp at h
 | (n,k0)::r,x,k,h=>by
  have ih:=@Iv env r x k;rw[zAH] at h;rw[zBy];by_cases c:(k0==NameKind.free&&env.scope.kind == .function&&env.kindOf n==some .cell)=true
  ·have h':=h
   simp only [c,if_true] at h';rw[zBy] at h';cases e:(x==n) with
   | true=>
    rw[e] at h';have c1:k0 = .free:=by
     simp only [zAv] at c
     simpa using c.1.1
    refine .inr ⟨(Option.some.inj h').symm,?_⟩;rw[c1]
   | false=>
    rw[e] at h';exact ih h'
  ·have h':=h
   simp only [c,zBN,if_false] at h';rw[zBy] at h';cases e:(x==n) with
   | true=>
    rw[e] at h';exact .inl h'
   | false=>
    rw[e] at h';exact ih h'
theorem Mj {env:Env}:∀ {names:List (Str×NameKind)} {x:Str},names.lookup x=some .free ->
  (names.map fun (n,k)=>if (k==NameKind.free&&env.scope.kind == .function&&env.kindOf n==some .cell) then (n,NameKind.cell) else (n,k)).lookup x=some .cell \/
  (names.map fun (n,k)=>if (k==NameKind.free&&env.scope.kind == .function&&env.kindOf n==some .cell) then (n,NameKind.cell) else (n,k)).lookup x=some .free
 | [],_,h=>by simp at h
 | (n,k0)::r,x,h=>by
  have ih:=@Mj env r x;rw[zAH];rw[zBy] at h;by_cases c:(k0==NameKind.free&&env.scope.kind == .function&&env.kindOf n==some .cell)=true
  ·simp only [c,if_true,zBy]
   cases e:(x==n) with
   | true=>exact .inl rfl
   | false=>
    rw[e] at h;exact ih h
  ·simp only [c,zBN,if_false,zBy]
   cases e:(x==n) with
   | true=>
    rw[e] at h;exact .inr h
   | false=>
    rw[e] at h;exact ih h
def CZ (sc scope:Scope):Bool:=
 scope.kind == .function&&scope.names.all fun y=>y.2 != .cell&&(y.2 != .local||scope.names.lookup y.1==some .local)&&(y.2 != .free||(sc.names.lookup y.1==some .cell||sc.names.lookup y.1==some .free))
structure CompScope (sc scope:Scope):Prop where
 kind:scope.kind = .function
 cell:∀ y∈scope.names,y.2 ≠ .cell
 own:∀ y∈scope.names,y.2 = .local->scope.names.lookup y.1=some .local
 free:∀ y∈scope.names,y.2 = .free->sc.names.lookup y.1=some .cell\/sc.names.lookup y.1=some .free
theorem CompScope.of {sc scope:Scope} (h:CZ sc scope=true):CompScope sc scope:=by
 unfold CZ at h;rw[zAv,zCB] at h;obtain⟨h1,h2⟩:=h;have h3:∀ y∈scope.names,(y.2 ≠ .cell/\(y.2 ≠ .local\/scope.names.lookup y.1=some .local))/\(y.2 ≠ .free\/(sc.names.lookup y.1=some .cell\/sc.names.lookup y.1=some .free)):=fun y hy=>by
  have q:=h2 y hy
  simpa [zAv,Bool.or_eq_true] using q
 refine⟨by simpa using h1,fun y hy=>(h3 y hy).1.1,fun y hy e=>?_,fun y hy e=>?_⟩
 ·exact (h3 y hy).1.2.resolve_left fun n=>n e
 ·exact (h3 y hy).2.resolve_left fun n=>n e
def Yr (X:Cx) (NC:List Str) (scope:Scope) (s3:Shared) (H3:Hp) (fp:List Addr):Cx:=
 { X with N:=NC,s₀ := s3,H₀ := H3,env:=compEnvC scope (V9 X.env.cells scope.names []) s3.heap.objs.size X.env,outer:=X.stack,ex:=fp,fn:=fun _=>false,pn:=[],xe:=fun _ _=>False }
def X2 (own:Nat) (ix:List Nat) (σ:St):St:=zAz own none++ix.map fun j=>(σ[j]?).getD none
def Caps (X:Cx) (scope:Scope):List Str->List Nat->Prop
 | [],[]=>True
 | x::cs,j::js=>(X.N[j]?=some x/\(X.env.kindOf x=some .cell\/X.env.kindOf x=some .free)/\scope.names.lookup x=some .free)/\Caps X scope cs js
 | _,_=>False
theorem Caps.len {X:Cx} {scope:Scope}:∀ {cs:List Str} {js:List Nat},Caps X scope cs js->cs.length=js.length
 | [],[],_=>rfl
 | _::_,_::_,h=>by rw[zAg,zAg,Caps.len h.2]
 | [],_::_,h=>h.elim
 | _::_,[],h=>h.elim
theorem Caps.at {X:Cx} {scope:Scope}:∀ {cs:List Str} {js:List Nat} {i:Nat} {x:Str},Caps X scope cs js->cs[i]?=some x ->
  ∃ j,js[i]?=some j/\X.N[j]?=some x/\(X.env.kindOf x=some .cell\/X.env.kindOf x=some .free)/\scope.names.lookup x=some .free
 | [],[],_,_,_,e=>by simp at e
 | x::_,j::_,0,_,h,e=>by simp at e; subst e; exact⟨j,rfl,h.1⟩
 | _::_,_::_,i+1,_,h,e=>by
  obtain⟨j,e1,r⟩:=Caps.at (i:=i) h.2 (by simpa using e);exact⟨j,by simpa using e1,r⟩
 | [],_::_,_,_,h,_=>h.elim
 | _::_,[],_,_,h,_=>h.elim
def LC:TT:=fun _ H Q=>Q true H
def MF (Y:Cx) (ifs:List Expr) (t:TT):Prop:=
 ∀ (pins:List (Addr×Obj)) (s:Shared) (σ:St) (H:Hp) (Q:Bool->Hp->Prop),Inv Y pins σ H s->t σ H Q ->
  wpAny (model Y.prog Y.w) Y.A (forIn ifs true fun c r=>if r=true then do let ok <- isTrue c Y.env (eval c Y.env); pure (ForInStep.yield ok) else pure (ForInStep.yield r)) (TP Y pins σ Q) Y.xe s
theorem Cu {Y:Cx}:MF Y [] LC:=fun _ _ _ H _ I h=>wpAny_tests_nil ⟨H,I,h⟩
theorem Fh {Y:Cx} {c:Expr} {t:TT} (h:PT Y c t):MF Y [c] t:=fun pins s σ H Q I q=>wpAny_tests_one (h pins s σ H Q I q)
def D2 (g:TG) (tc:TT) (te:TE) (own:Nat) (ix:List Nat) (σ:St) (J:It) (p:Addr) (H1:Hp) (QQ:Hp->Prop):Prop:=
 ∃ W:Nat->Nat->List V->St->Hp->Prop,(∃ m,W 0 m [] (X2 own ix σ) (upd H1 p (.lst [])))/\∀ i m ys σ2 H2,W i m ys σ2 H2->H2 p=some (.lst ys) /\
  ((J.stop i H2/\QQ H2)\/(J.go i H2/\ys.length<sizeLine/\∀ x H3,J.yld i H2 x H3->∃ N:List V->St->Hp->Prop,(∀ ys' σ' H',N ys' σ' H'->∃ m',m'<m/\W (i+1) m' ys' σ' H') /\
   g x σ2 H3 fun σ4 H4=>tc σ4 H4 fun b H5=>if b=true then te σ4 H5 fun y H6=>H6 p=some (.lst ys)/\N (ys++[y]) σ4 (upd H6 p (.lst (ys++[y]))) else N ys σ4 H5))
def HZ (wi:TI) (g:TG) (tc:TT) (te:TE) (own:Nat) (ix:List Nat):TE:=fun σ H Q=>wi σ H fun J H1=>∀ p,H1 p=none->D2 g tc te own ix σ J p H1 (Q (.ref p))
theorem Z6 {prog:Program} {w:World} {A:Around} {R:Result->Shared->Prop} {s:Shared} {elt target iter:Expr} {ifs:List Expr} {scope:Scope} {pos:Pos} {it acc:Value} {env:Env} (I:Nat->Shared->Prop)
  (turn:∀ n s,I n s->wpAny (model prog w) A (pyNext it) (fun r s₁ => (r=none/\R (.ok .next) s₁)\/∃ v,r=some v /\
   wpAny (model prog w) A (letOwnedTupleGo target it v) (fun _ s₂ => wpAny (model prog w) A (assign target env v) (fun _ s₃ =>
    wpAny (model prog w) A (forIn ifs true fun c r=>if r=true then do let ok <- isTrue c env (eval c env); pure (ForInStep.yield ok) else pure (ForInStep.yield r)) (fun ok s₄ =>
     (ok=true/\wpAny (model prog w) A (eval elt env) (fun x s₅ => wpAny (model prog w) A (call (.builtin "list.append") [acc,x]) (fun _ s₆ => ∃ m,m<n/\I m s₆) (fun _ _=>False) s₅) (fun _ _=>False) s₄) \/
     (ok=false/\∃ m,m<n/\I m s₄)) (fun _ _=>False) s₃) (fun _ _=>False) s₂) (fun _ _=>False) s₁) (fun _ _=>False) s)
  (n:Nat) (h:I n s):codeAny (model prog w) A (.compLoop (.ListComp elt [⟨target,iter,ifs,0⟩] scope pos) 0 it acc env) R s:=by
 refine codeAny_loop rfl I (fun n s hI=>?_) n h;show wpAny _ A ((compTurn (.ListComp elt [⟨target,iter,ifs,0⟩] scope pos) 0 it acc env).onRaise (fun x=>do noteFrame x env; theTreesLotGoes x)) _ _ s;refine wpAny_noted ?_;rw[compTurn_list];have no:∀ (e:Value) (s':Shared),False->notedBy (model prog w) A env (fun e s'=>R (.error e) s') e s':=fun _ _ f=>f.elim;refine zCC (wpAny_standAt (zCC (wpAny_mono (turn n s hI) (fun r s₁ h₁ => ?_) no)));rcases h₁ with ⟨rfl,h₁⟩ | ⟨v,rfl,h₁⟩
 ·exact zCD h₁
 refine zCC (wpAny_mono h₁ (fun _ s₂ h₂ => ?_) no);refine zCC (wpAny_mono h₂ (fun _ s₃ h₃ => ?_) no);refine zCC (wpAny_mono h₃ (fun ok s₄ h₄ => ?_) no);rcases h₄ with ⟨rfl,h₄⟩ | ⟨rfl,h₄⟩
 ·refine zCC (zCC (wpAny_mono h₄ (fun x s₅ h₅ => ?_) no))
  exact zCC (wpAny_mono h₅ (fun _ s₆ h₆ => zCD (zCD ⟨rfl,h₆⟩)) no)
 ·exact zCD ⟨rfl,h₄⟩
section
variable {X:Cx} {pins:List (Addr×Obj)} {σ:St} {H H':Hp} {s s':Shared}
theorem B7 {NC own cs:List Str} {ix:List Nat} {scope:Scope} {fp:List Addr} {h4:Heap} {t4:Nat} (I:Inv X pins σ H s) (S:CompScope X.env.scope scope) (hN:NC=own++cs) (hc:Caps X scope cs ix)
  (hf:∀ b∈fp,Oo X pins H b) (hl:∀ b∈fp,b<s.heap.objs.size) (hns:h4.Ns s.heap.objs.size fun _=>none) (hk:∀ b o,s.heap.get? b=some o->h4.get? b=some o) :
  Inv (Yr X NC scope s H fp) [] (X2 own.length ix σ) H { s with heap:=h4,toks:=t4 }:=by
 have cs_has:∀ y∈scope.names,y.2 = .free->∃ c,X.env.cells.lookup y.1=some c:=fun y hy e=>I.ok.has y.1 (S.free y hy e);have len:=hc.len;refine⟨⟨I.ok.mod,S.kind,I.ok.glob,I.ok.blt,zAl _,fun x y c e1 e2=>I.ok.inj x y c (Ih e1) (Ih e2),fun x hx=>?_,fun _ _ z=>(nomatch z),I.ok.hd,I.ok.frames,.inl rfl,fun b hb=>⟨zAw (hl b hb),fun x c e=>(hf b hb).2.2.2.2.1 x c (Ih e)⟩,
   I.bs,zAG I.ok.bsz I.sz,fun b o e hb=>?_,fun b hb z=>?_,I.stack,I.stkFree⟩,rfl,I.bare,Un.kept hk,⟨_,hns,fun i x v e1 e2 e3=>?_⟩,fun x c e=>?_,I.hok.fresh (zAl _),fun x c e=>I.freeC x c (Ih e),fun p hp=>?_,I.hok.kept hk,?_⟩
 ·-- a cell for each caught name
  have hx':(relabel scope X.env).names.lookup x=some .cell\/(relabel scope X.env).names.lookup x=some .free:=hx;have q:scope.names.lookup x=some .free:=by
   rcases hx' with h | h
   ·rcases Iv h with h | ⟨_,h⟩
    ·exact absurd rfl (S.cell _ (PySem.mem_of_lookup h))
    ·exact h
   ·rcases Iv h with h | ⟨z,_⟩
    ·exact h
    ·cases z
  obtain⟨c,hc'⟩:=cs_has (x,.free) (PySem.mem_of_lookup q) rfl;exact Ek (Yj hc' scope.names [] (PySem.mem_of_lookup q))
 ·rcases (hf b hb).2.2.2.1 with z | z
  ·exact I.ok.noex b o e z
  ·exact absurd (zAK (zAp e) (zAG I.ok.bsz z)) (zBm _)
 ·rcases zAn.mp (I.stkSub b z) with z | z
  ·exact (hf b hb).2.1 z
  ·exact (hf b hb).2.2.1 z
 ·-- the caught names' values
  have e1':(own++cs)[i]?=some x:=hN▸e1;have hi:own.length<=i:=by
   by_cases hi:own.length<=i
   ·exact hi
   ·unfold X2 at e2
    rw[List.getElem?_append_left (by rw[zBg]; omega),List.getElem?_replicate,if_pos (by omega)] at e2;cases e2
  rw[zCh hi] at e1';obtain⟨j,ej,en,kx,fx⟩:=hc.at e1';have e2':(σ[j]?).getD none=some v:=by
   unfold X2 at e2;rw[zCh (by rw[zBg]; omega),zBg,zAs,ej] at e2;exact Option.some.inj e2
  have e2'':σ[j]?=some (some v):=by
   cases z:σ[j]? with
   | none=>rw[z] at e2'; cases e2'
   | some o=>rw[z] at e2'; exact congrArg some e2'
  obtain⟨m,_,hl'⟩:=I.loc;obtain⟨u,ru,l⟩:=hl' j x v en e2'' (kx.elim (fun z=>.inr (.inl z)) fun z=>.inr (.inr z));refine⟨u,ru,.inr ⟨Mj fx,?_⟩⟩;rcases l with ⟨k,_⟩ | ⟨_,c,e,z⟩
  ·rcases kx with k' | k' <;> rw[k] at k' <;> cases k'
  ·obtain⟨d,hd⟩:=Ek (Yj e scope.names [] (PySem.mem_of_lookup fx))
   have e':=Ih hd;rw[e] at e';cases e';obtain⟨o,ho,dd⟩:=z;exact⟨c,hd,o,hk c o ho,dd⟩
 ·obtain⟨v,o,ho,dd⟩:=I.cell x c (Ih e)
  exact⟨v,o,hk c o ho,dd⟩
 ·exact absurd (show p∈([]:List (Addr×Obj)) from hp) (by simp)
 ·show (X2 own.length ix σ).length=NC.length
  rw[hN];unfold X2;rw[zAo,zAo,zBg,zAb,len]
theorem Vp {NC:List Str} {scope:Scope} {fp:List Addr} {σ':St} {h':Heap} (I:Inv X pins σ H s) (hf:∀ b∈fp,Oo X pins H b) (J:Inv (Yr X NC scope s H fp) [] σ' H' s') (hs:zAU s.heap.objs.size s'.heap h'):Inv X pins σ H' { s' with heap:=h' }:=by
 obtain⟨hh,g,d,t,os⟩:=s';have hos:os=s.os:=J.os;subst hos;have nC:H' s.heap.objs.size=none:=J.free;have un:Un (AK X.stack) fp H H' s.heap hh:=J.base;have out:∀ b o,s.heap.get? b=some o->b≠s.heap.objs.size:=fun b o e=>zAw (zAp e);have un':Un (AK X.stack) fp H H' s.heap h':=⟨fun b o e n hb hx=>(hs.2 b (out b o e)).trans (un.keep b o e n hb hx),fun b o e n hb hx=>let ⟨sl,q⟩:=un.slot b o e n hb hx; ⟨sl,(hs.2 b (out b o e)).trans q⟩,un.free,
  fun b o e hx=>let ⟨o',q⟩:=un.there b o e hx; ⟨o',(hs.2 b (out b o e)).trans q⟩,un.tups,un.frzs,un.tbls⟩
 have hok:HOk X.prog X.w H' h':=fun b u e=>by
  refine (J.hok b u e).stay (fun c v hc q=>(hs.2 c ?_).trans q) (fun _ q=>q) fun _ _ q=>q;rintro rfl;rcases hc with rfl | hc
  ·rw[nC] at e; cases e
  ·rw[nC] at hc; cases hc
 have q:=Inv.call (s:=s) (h':=h') (g':=g) (d':=d) (t':=t) (ch:=fp) I un' hok J.bare fun b hb=>⟨(hf b hb).2.2.2.1,(hf b hb).2.1,(hf b hb).2.2.2.2.1,(hf b hb).2.2.2.2.2⟩;exact q
end
theorem Vg {X:Cx} {elt tg iter:Expr} {ifs:List Expr} {scope:Scope} {pos:Pos} {NC own cs:List Str} {ix:List Nat} {g:TG} {tc:TT} {te:TE} (hc:X.calm=true) (S:CompScope X.env.scope scope) (hN:NC=own++cs) (hcap:Caps X scope cs ix)
  (hg:∀ s3 H3 fp,PG (Yr X NC scope s3 H3 fp) tg g) (ht:∀ s3 H3 fp,MF (Yr X NC scope s3 H3 fp) ifs tc) (he:∀ s3 H3 fp,PE (Yr X NC scope s3 H3 fp) elt te)
  {pins:List (Addr×Obj)} {σ:St} {H2:Hp} {s2:Shared} {it:Addr} {fp:List Addr} {tn:Nat->Heap->Prop} {J:It} (I2:Inv X pins σ H2 s2) (T:Wq X.prog X.w X.K tg J fp it tn) (st2:tn 0 s2.heap) (f2:∀ b∈fp,Oo X pins H2 b) {QQ:Addr->Hp->Prop} {E:Value->Shared->Prop}
  {RR:Value->Addr->Result->Shared->Prop}
  (h2:∀ p,H2 p=none->D2 g tc te own.length ix σ J p H2 (QQ p))
  (fin:∀ s3 H3 σ5 H5 s6,Inv X pins σ H3 s3->(∀ b∈fp,Oo X pins H3 b)->Inv (Yr X NC scope s3 H3 fp) [] σ5 H5 s6->QQ s2.heap.objs.size H5->RR (.ref s2.heap.objs.size) s3.heap.objs.size (.ok .next) s6) :
  wpAny (model X.prog X.w) X.A (newList []) (fun acc s3=>wpAny (model X.prog X.w) X.A (newFunctionEnv scope X.env.globals (V9 X.env.cells scope.names []) [] X.env.qual none .none (some X.env)) (fun cenv s4=>
   codeAny (model X.prog X.w) X.A (.compStart (.ListComp elt [⟨tg,iter,ifs,0⟩] scope pos) 0 (.ref it) acc { cenv with scope:=relabel scope X.env }) (RR acc cenv.locals) s4) E s3) E s2:=by
 have lt2:∀ b∈fp,b<s2.heap.objs.size:=fun b hb=>let ⟨_,e,_⟩:=T.obj _ _ st2 b hb; zAp e
 obtain⟨W,⟨m0,w0⟩,turn⟩:=h2 _ I2.fresh;refine wpAny_newObj_type ?_;have I3:Inv X pins σ (upd H2 s2.heap.objs.size (.lst [])) { s2 with heap:=s2.heap.push { cls:=.type "list",dict:=none,data:=.seq ([]:List Value).toArray } }:=I2.lnew (t':=s2.toks) .nil (zAD _);have f3:∀ b∈fp,Oo X pins (upd H2 s2.heap.objs.size (.lst [])) b:=fun b hb=>⟨by rw[Ar (zAw (lt2 b hb))]; exact (f2 b hb).1,(f2 b hb).2⟩;have st3:tn 0 (s2.heap.push { cls:=.type "list",dict:=none,data:=.seq ([]:List Value).toArray }):=T.keep _ _ _ st2 fun b hb o e=>zAd _ e;have lt3:∀ b∈fp,b<(s2.heap.push { cls:=.type "list",dict:=none,data:=.seq ([]:List Value).toArray }).objs.size:=fun b hb=>by rw[zBn]; exact zBw (lt2 b hb)
 refine wpAny_newFunctionEnv S.cell (fun _ z=>nomatch z) (fun h4 hns hsb=>?_) S.kind
 dsimp only at hns hsb ⊢
 have hk4:∀ b o,(s2.heap.push { cls:=.type "list",dict:=none,data:=.seq ([]:List Value).toArray }).get? b=some o->h4.get? b=some o:=fun b o e=>
  hsb.extBut b o (zAw (zAp e)) (zAd _ e)
 have J0:=B7 (t4:=s2.toks+([]:List (Str×Value)).length) I3 S hN hcap f3 lt3 hns hk4;have st4:tn 0 h4:=T.keep _ _ _ st3 fun b hb o e=>hk4 b o e;have fB:∀ {H':Hp},(∀ b∈fp,H' b=none)->∀ b∈fp,Oo (Yr X NC scope { s2 with heap:=s2.heap.push { cls:=.type "list",dict:=none,data:=.seq ([]:List Value).toArray } } (upd H2 s2.heap.objs.size (.lst [])) fp) [] H' b:=fun hn b hb=>by
  refine⟨hn b hb,zAw (lt3 b hb),fun z=>?_,.inl hb,fun x c e=>(f3 b hb).2.2.2.2.1 x c (Ih e),fun p hp=>absurd (show p∈([]:List (Addr×Obj)) from hp) (by simp)⟩;rcases zAn.mp (I3.stkSub b z) with z | z
  ·exact (f3 b hb).2.1 z
  ·exact (f3 b hb).2.2.1 z
 have loop:∀ s4:Shared,s4={ s2 with heap:=h4,toks:=s2.toks+([]:List (Str×Value)).length } ->
   codeAny (model X.prog X.w) X.A (.compLoop (.ListComp elt [⟨tg,iter,ifs,0⟩] scope pos) 0 (.ref it) (.ref s2.heap.objs.size) (compEnvC scope (V9 X.env.cells scope.names []) (s2.heap.push { cls:=.type "list",dict:=none,data:=.seq ([]:List Value).toArray }).objs.size X.env))
    (RR (.ref s2.heap.objs.size) (s2.heap.push { cls:=.type "list",dict:=none,data:=.seq ([]:List Value).toArray }).objs.size) s4:=by
  rintro s4 rfl;refine Z6 (fun n s'=>∃ i ys σ' H',Inv (Yr X NC scope { s2 with heap:=s2.heap.push { cls:=.type "list",dict:=none,data:=.seq ([]:List Value).toArray } } (upd H2 s2.heap.objs.size (.lst [])) fp) [] σ' H' s'/\tn i s'.heap/\(∀ b∈fp,H' b=none)/\W i n ys σ' H') ?_ m0
   ⟨0,[],_,_,J0,st4,fun b hb=>(f3 b hb).1,w0⟩
  rintro n s5 ⟨i,ys,σ5,H5,J5,st5,fr5,w5⟩;obtain⟨hp5,alt⟩:=turn i n ys σ5 H5 w5;rcases alt with ⟨stop,qn⟩ | ⟨go,hz,step⟩
  ·refine Cw (T.done (Yr X NC scope _ _ fp) rfl rfl rfl hc i [] s5 σ5 H5 _ J5 (fB fr5) st5 stop) fun r s6 ⟨hr,J6⟩=>.inl ⟨hr,?_⟩
   exact fin _ _ _ _ _ I3 f3 J6 qn
  ·refine Cw (T.item (Yr X NC scope _ _ fp) rfl rfl rfl hc i [] s5 σ5 H5 _ J5 (fB fr5) st5 go) fun r s6 ⟨u,hr,h6⟩=>.inr ⟨u,hr,?_⟩
   refine Cw h6 fun _ s7 ⟨x,H7,J7,r7,y7,st7,fr7⟩=>?_;have J7':=J7.pinned (fB fr7) (T.obj _ _ st7);obtain⟨N,hN',q7⟩:=step x H7 y7;refine Cw (hg _ _ fp _ s7 σ5 H7 x u _ J7' r7 q7) fun _ s8 ⟨σ8,H8,J8,q8⟩=>?_;refine Cw (ht _ _ fp _ s8 σ8 H8 _ J8 q8) fun ok s9 ⟨H9,J9,q9⟩=>?_;have again:∀ {σa:St} {Ha:Hp} {sa:Shared} {ya:List V} {ma:Nat},Inv (Yr X NC scope { s2 with heap:=s2.heap.push { cls:=.type "list",dict:=none,data:=.seq ([]:List Value).toArray } } (upd H2 s2.heap.objs.size (.lst [])) fp) ([]++Rl fp s7.heap) σa Ha sa->ma<n->W (i+1) ma ya σa Ha ->
     ∃ m,m<n/\∃ i ys σ' H',Inv (Yr X NC scope { s2 with heap:=s2.heap.push { cls:=.type "list",dict:=none,data:=.seq ([]:List Value).toArray } } (upd H2 s2.heap.objs.size (.lst [])) fp) [] σ' H' sa/\tn i sa.heap/\(∀ b∈fp,H' b=none)/\W i m ys σ' H':=fun {σa Ha sa ya ma} Ja hm wa=>by
    refine⟨ma,hm,i+1,ya,σa,Ha,Ja.unpinned,T.keep _ _ _ st7 fun b hb o e=>(Ja.pin (b,o) (zAR _ (zAR _ (Ic hb e)))).1,fun b hb=>?_,wa⟩;obtain⟨o,e,d⟩:=T.obj _ _ st7 b hb;exact (Ja.pin (b,o) (zAR _ (zAR _ (Ic hb e)))).2.1
   cases ok with
   | false=>
    obtain⟨m',hm,w'⟩:=hN' _ _ _ (show N ys σ8 H9 from q9);exact .inr ⟨rfl,again J9 hm w'⟩
   | true=>
    refine .inl ⟨rfl,Cw (he _ _ fp _ s9 σ8 H9 _ J9 q9) fun yv s10 ⟨y,H10,J10,r10,hp10,n10⟩=>?_⟩;obtain⟨m',hm,w'⟩:=hN' _ _ _ n10;refine Cw (Do _ s10 σ8 H10 (.ref s2.heap.objs.size) [y] (.ref s2.heap.objs.size) [yv] (fun _ Hz=>Hz=upd H10 s2.heap.objs.size (.lst (ys++[y]))) J10 rfl (.cons r10 .nil) ⟨_,ys,y,rfl,rfl,hp10,hz,rfl⟩) fun _ s11 ⟨_,H11,J11,_,e11⟩=>?_;subst e11;exact again J11 hm w'
 exact codeAny_compStart_list (loop _ rfl) (T.self X.A 0 _ _ _ st4 (loop _ rfl))
theorem De {X:Cx} {elt tg iter:Expr} {ifs:List Expr} {scope:Scope} {pos:Pos} {NC own cs:List Str} {ix:List Nat} {wi:TI} {g:TG} {tc:TT} {te:TE} (hc:X.calm=true) (S:CompScope X.env.scope scope) (hN:NC=own++cs) (hcap:Caps X scope cs ix)
  (hi:PI X tg iter wi) (hg:∀ s3 H3 fp,PG (Yr X NC scope s3 H3 fp) tg g) (ht:∀ s3 H3 fp,MF (Yr X NC scope s3 H3 fp) ifs tc) (he:∀ s3 H3 fp,PE (Yr X NC scope s3 H3 fp) elt te)
  (hs:∀ x,foldedSetIterable iter X.env x=pure x:=by intro _; rfl):PE X (.ListComp elt [⟨tg,iter,ifs,0⟩] scope pos) (HZ wi g tc te own.length ix):=by
 intro pins s σ H Q I h;rw[eval_ListComp];have has:∀ y∈scope.names,y.2 = .free->∃ c,X.env.cells.lookup y.1=some c:=fun y hy e=>I.ok.has y.1 (S.free y hy e);refine wpAny_comprehension_free (use:=none) rfl hs (EO has) S.kind S.own (Cw (hi pins s σ H _ I h) fun v s1 h1=>Cw h1 fun itv s2 h2=>?_);obtain⟨it,fp,tn,J,H2,e,I2,T,st2,f2,h2⟩:=h2;subst e;refine Vg hc S hN hcap hg ht he I2 T st2 f2 (QQ:=fun p=>Q (.ref p)) (RR:=fun acc C=>compPost (model X.prog X.w) X.A X.xe none (EP X pins σ Q) acc C) h2 fun s3 H3 σ5 H5 s6 I3 f3 J6 qn=>?_;obtain⟨m6,hn6,_⟩:=J6.loc;exact⟨m6,hn6,fun h7 hs7=>⟨.ref s2.heap.objs.size,H5,Vp I3 f3 J6 hs7,rfl,qn⟩⟩
theorem Fa {X:Cx} {elt tg iter:Expr} {ifs:List Expr} {scope:Scope} {pos py spos:Pos} {NC own cs:List Str} {ix:List Nat} {wi:TI} {g:TG} {tc:TT} {te:TE} {y:Str} {j:Nat} (hnd:X.N.Nodup) (hj:X.N[j]?=some y) (hy:X.env.scope.names.lookup y=some .local) (hc:X.calm=true) (S:CompScope X.env.scope scope) (hN:NC=own++cs) (hcap:Caps X scope cs ix)
  (hi:PI X tg iter wi) (hg:∀ s3 H3 fp,PG (Yr X NC scope s3 H3 fp) tg g) (ht:∀ s3 H3 fp,MF (Yr X NC scope s3 H3 fp) ifs tc) (he:∀ s3 H3 fp,PE (Yr X NC scope s3 H3 fp) elt te)
  (hsw:swapsWith (.ListComp elt [⟨tg,iter,ifs,0⟩] scope pos) (some (.Name y py)) spos.line X.env=pure true:=by rfl) (hs:∀ x,foldedSetIterable iter X.env x=pure x:=by intro _; rfl) :
  PS X (.Assign [.Name y py] (.ListComp elt [⟨tg,iter,ifs,0⟩] scope pos) spos) (FR (HZ wi g tc te own.length ix) (Fb j)):=by
 intro pins s σ H D I h;rw[exec_Assign_Name_used _ _ _ _ hsw];refine zCC (wpAny_standAt (zCC ?_));show wpAny _ X.A (comprehension (.ListComp elt [⟨tg,iter,ifs,0⟩] scope pos) scope X.env _ (newList []) false (eval iter X.env) (some (assign (.Name y py) X.env)) >>= fun _=>_) _ _ s;have has:∀ y∈scope.names,y.2 = .free->∃ c,X.env.cells.lookup y.1=some c:=fun y hy e=>I.ok.has y.1 (S.free y hy e);refine zCC (Cw (wpAny_comprehension_free (use:=some (assign (.Name y py) X.env)) (Q:=fun _ s'=>SP X pins D .next s') rfl hs (EO has) S.kind S.own (Cw (hi pins s σ H _ I h) fun v s1 h1=>Cw h1 fun itv s2 h2=>?_)) fun _ s' hq=>zCD (zCD hq));obtain⟨it,fp,tn,J,H2,e,I2,T,st2,f2,h2⟩:=h2;subst e;refine Vg hc S hN hcap hg ht he I2 T st2 f2 (QQ:=fun p H'=>D.nx (σ.set j (some (.ref p))) H') (RR:=fun acc C=>compPost (model X.prog X.w) X.A X.xe (some (assign (.Name y py) X.env)) (fun _ s'=>SP X pins D .next s') acc C) h2 fun s3 H3 σ5 H5 s6 I3 f3 J6 qn=>?_;obtain⟨m6,hn6,_⟩:=J6.loc;have I6:=Vp I3 f3 J6 (zAU.refl ..);show wpAny _ X.A (assign (.Name y py) X.env (.ref s2.heap.objs.size)) _ _ s6;refine wpAny_assign_Name (Uy (v:=.ref s2.heap.objs.size) I6 hnd hj (.inl hy) rfl (fun s7 I7 ⟨a,hs7,ha⟩=>?_) (.inr hy));have hCa:s3.heap.objs.size≠a:=by
  rcases ha with ha | ha
  ·rw[ha]; exact Ne.symm (zAw I3.lt)
  ·obtain⟨v,q⟩:=I3.cell y a ha
   exact Ne.symm (zAw q.lt)
 refine⟨m6,hn6.sameBut hs7 hCa,fun h8 hs8=>?_⟩;have nC:H5 s3.heap.objs.size=none:=J6.free;have I8:Inv X pins (σ.set j (some (.ref s2.heap.objs.size))) H5 { s7 with heap:=h8,toks:=s7.toks }:=by
  refine I7.turned (it:=s3.heap.objs.size) (fun b o hb e=>(hs8.2 b hb).trans e) nC (Ne.symm (zAw I3.lt)) (.inr I3.sz) (fun x c e z=>?_) (fun p hp z=>?_)
  ·obtain⟨v,q⟩:=I3.cell x c e
   exact absurd (z▸q.lt) (zBm _)
  ·exact absurd (z▸zAp (I3.pin p hp).1) (zBm _)
 exact⟨_,H5,I8,qn⟩
theorem Cy {X:Cx}:Gc X (.builtin "isinstance") (fun xs H Q=>∃ x c cv t b,xs=[x,c]/\(∀ u,RelV c u->u=cv)/\Gx X.K H x t/\zAV X.K t cv=some b/\Q (.bl b) H):=by
 intro pins s σ H xs us Q I r h;obtain⟨x,c,cv,t,b,rfl,hc,ty,e,q⟩:=h;obtain⟨u,z,rfl,rx,rc⟩:=EW r;cases hc z rc;exact Y4 I rx ty e fun tk=>⟨.bl b,H,I.tok tk,rfl,q⟩
theorem Kw {n:String}:∀ u,RelV (.ty n) u->u = .type n:=fun _ h=>h
theorem Rv {X:Cx} (hc:X.calm=true):Gc X (.builtin "sum") (fun xs H Q=>∃ p,∃ ns:List Int,xs=[.ref p]/\SqL X.K H p (ns.map V.int)/\Q (.int ns.sum) H):=by
 intro pins s σ H xs us Q I r h;obtain⟨p,ns,rfl,hq,q⟩:=h;obtain⟨u,rfl,rx⟩:=Jb r;cases rx;obtain⟨its,rv,pl,hz⟩:=I.list hq;have hi:IntsAre its ns:=Lm rv;obtain⟨ys,ey⟩:=hi.allInts.items;have hl:s.heap.IsList p (intItems ys):=ey▸pl.isList;have es:preSum (numAt ys) ys.size=ns.sum:=by
  have e1:=hi.numsOf;have e2:numsOf (intItems ys).toList=ns:=by rw[<- ey]; exact e1
  rw[nums_intItems] at e2;rw[preSum_eq,List.take_of_length_le (by simp),e2]
 refine sum_intListG (I.ok.hd hc) hl fun h' tk t' hk=>?_;exact⟨.int ns.sum,H,I.kept hk,⟨t',by rw[es]⟩,q⟩
def GB:List V->List V->Bool
 | [],[]=>true
 | x::xs,y::ys=>Pq x y&&GB xs ys
 | _,_=>false
theorem U0:∀ {xs ys:List V},xs.length≠ys.length->GB xs ys=false
 | [],[],h=>absurd rfl h
 | [],_::_,_=>rfl
 | _::_,[],_=>rfl
 | x::xs,y::ys,h=>by
  unfold GB;rw[U0 (xs:=xs) (ys:=ys) fun e=>h (by rw[zAg,zAg,e]),zBY]
theorem Q8:∀ {xs ys:List V},xs.length=ys.length->∀ e:Nat->Bool,(∀ j x y,xs[j]?=some x->ys[j]?=some y->e j=Pq x y)->(zAM xs.length).all e=GB xs ys
 | [],[],_,_,_=>rfl
 | [],_::_,h,_,_=>by simp at h
 | _::_,[],h,_,_=>by simp at h
 | x::xs,y::ys,h,e,he=>by
  have ih:=Q8 (xs:=xs) (ys:=ys) (by simpa using h) (fun j=>e (j+1)) fun j a b ha hb=>he (j+1) a b (by simpa using ha) (by simpa using hb);unfold GB;rw[zAg,List.range_succ_eq_map,zCy,List.all_map,he 0 x y rfl rfl,<- ih];rfl
def DO (its js:List Value) (xs ys:List V) (j:Nat):Bool:=match xs[j]?,ys[j]? with
 | some x,some y=>Pq x y
 | _,_=>true
theorem DX {X:Cx} {pins:List (Addr×Obj)} {s:Shared} {σ:St} {H:Hp} {A:Around} {xs ys:List V} {its js:List Value} (r1:Vals xs its) (r2:Vals ys js) (f1:xs.all Eo=true) (f2:ys.all Eo=true) (hl:xs.length=ys.length) :
  ∀ j (h1:j<its.toArray.size) (h2:j<js.toArray.size),SeqAt.EqAt A s its.toArray[j] js.toArray[j] (DO its js xs ys j):=fun j h1 h2=>by
 have l1:=r1.length;have l2:=r2.length;rw[zAh] at h1 h2;have e1:xs[j]?=some xs[j]:=zAe (by omega);have e2:ys[j]?=some ys[j]:=zAe (by omega);obtain⟨u,hu,ru⟩:=r1.get e1;obtain⟨v,hv,rv⟩:=r2.get e2;have eu:its.toArray[j]=u:=by rw[zCd]; exact (zAi.mp hu).2
 have ev:js.toArray[j]=v:=by rw[zCd]; exact (zAi.mp hv).2
 rw[eu,ev];unfold DO;rw[e1,e2];exact N9 ru rv (zCB.mp f1 _ (zBc _)) (zCB.mp f2 _ (zBc _))
def OV (K:zAa) (neg:Bool):R2:=fun x y H Q=>∃ a b xs ys,x = .ref a/\y = .ref b/\SqL K H a xs/\SqL K H b ys/\xs.all Eo=true/\ys.all Eo=true/\Q (.bl (if neg then !GB xs ys else GB xs ys)) H
theorem OW {X:Cx} (hu:X.A.units<cLine):Jm X (compareOp .Eq) (OV X.K false):=by
 intro pins s σ H x y v u Q I rx ry h;obtain⟨a,b,xs,ys,rfl,rfl,h1,h2,f1,f2,q⟩:=h;cases rx;cases ry;obtain⟨its,r1,p1,z1⟩:=I.list h1;obtain⟨js,r2,p2,z2⟩:=I.list h2;have l1:=r1.length;have l2:=r2.length;by_cases hl:xs.length=ys.length
 ·refine SeqAt.eq_listAt p1.isList p2.isList (by rw[zAh,zAh]; lia) hu (DX (X:=X) (pins:=pins) (σ:=σ) (H:=H) r1 r2 f1 f2 hl) ?_
  refine⟨.bl (GB xs ys),H,I,?_,q⟩;show Value.bool _=Value.bool _;rw[zAh,<- l1,Q8 hl];intro j x y e1 e2;unfold DO;rw[e1,e2]
 ·refine SeqAt.eq_list_lengthsAt p1.isList p2.isList (by simp only [zAh,bne_iff_ne,ne_eq]; lia) hu ?_
  exact⟨.bl (GB xs ys),H,I,by rw[U0 hl]; rfl,q⟩
def NS (K:zAa) (te:TE) (tk:TE):TE:=fun σ H Q=>te σ H fun x H1=>tk σ H1 fun k H2=>k = .int (-1)/\∃ a xs,x = .ref a/\SqL K H2 a xs/\∀ p,H2 p=none->Q (.ref p) (upd H2 p (.lst xs.reverse))
theorem JR {X:Cx} {e k:Expr} {te tk:TE} {p2 pos:Pos} (he:PE X e te) (hk:PE X k tk):PE X (.Subscript e (.Slice none none (some k) p2) pos) (NS X.K te tk):=by
 intro pins s σ H Q I h;refine Subscript_ (Cw (he pins s σ H _ I h) fun v s1 ⟨x,H1,I1,r1,q1⟩=>?_);refine wpAny_Slice ?_;rw[evalPart_none];refine zCD (zCD ?_);rw[evalPart_some];refine Cw (hk pins s1 σ H1 _ I1 q1) fun vk s2 ⟨z,H2,I2,r2,hz,a,xs,ex,hx,q⟩=>?_;subst hz ex;cases r1;obtain⟨t,rfl⟩:=r2;have I4:Inv X pins σ H2 { s2 with heap:=s2.heap.push { cls:=.type "slice",data:=.fields #[.none,.none,.int (-1) t] } }:=I2.kept (t':=s2.toks) fun b ob q=>zAd _ q;obtain⟨its,r,ht,hz⟩:=I4.list hx;have hlen:=r.length;refine tail_any (ops:=[.ref a,.ref s2.heap.objs.size]) ht.isList.typeIs slot_list_getitem.lookup ?_ (by with_unfolding_all rfl);refine wpAny_getItem_list_slice ht.isList (Heap.IsSliceOf.new ..) .none .none (.int (-1) t) (by decide) ?_ (by rw[zAh] <;> lia);refine⟨.ref _,_,I4.laid (t':=s2.toks) (o:=.lst xs.reverse) (fun b ob q=>zAd _ q) (zAl _) ?_,rfl,q _ (I4.hok.fresh (zAl _))⟩;refine⟨by rw[List.length_reverse]; exact hz,its.reverse,0,r.reverse,?_⟩;rw[PySem.W.krv_pick];exact zAu _ rfl
abbrev Gb (ix:List Nat) (σ:St):St:=ix.map fun j=>(σ[j]?).getD none
theorem Go {lo:Int} {n:Nat} {tc:TT} {te:TE} {σ:St} {ix:List Nat} {QQ:Hp->Prop} {H1:Hp} {p:Addr} (Pv:Nat->List V->Hp->Prop) (h0:Pv 0 [] (upd H1 p (.lst [])))
  (hp:∀ i ys H,i<=n->Pv i ys H->H p=some (.lst ys)/\ys.length<=i) (hn:n<=sizeLine)
  (hs:∀ i ys H,i<n->Pv i ys H->tc (some (.int (lo+i))::Gb ix σ) H fun b H5=>if b=true then te (some (.int (lo+i))::Gb ix σ) H5 fun y H6=>H6 p=some (.lst ys) /\
   (some (.int (lo+i))::Gb ix σ)=(some (.int (lo+i))::Gb ix σ)/\Pv (i+1) (ys++[y]) (upd H6 p (.lst (ys++[y]))) else (some (.int (lo+i))::Gb ix σ)=(some (.int (lo+i))::Gb ix σ)/\Pv (i+1) ys H5)
  (hd:∀ ys H,Pv n ys H->QQ H) :
  D2 (Fb 0) tc te 1 ix σ (IR lo n) p H1 QQ:=by
 refine⟨fun i m ys σ2 H2=>m=n-i/\i<=n/\(∃ o,σ2=o::Gb ix σ)/\Pv i ys H2,⟨n,by simp,zAD _,⟨none,rfl⟩,h0⟩,?_⟩;rintro i m ys σ2 H2 ⟨rfl,hi,⟨o,rfl⟩,pv⟩;obtain⟨hp2,hl2⟩:=hp i ys H2 hi pv;refine⟨hp2,?_⟩;by_cases hlt:i<n
 ·refine .inr ⟨hlt,by lia,fun x H3 y=>?_⟩
  obtain⟨e,y⟩:=y;subst e y;exact⟨fun ys' σ' H'=>σ'=(some (.int (lo+i))::Gb ix σ)/\Pv (i+1) ys' H',fun ys' σ' H' ⟨e,q⟩=>⟨n-(i+1),by lia,rfl,hlt,⟨_,e⟩,q⟩,hs i ys _ hlt pv⟩
 ·have e:i=n:=by lia
  subst e;exact .inl ⟨zAl _,hd ys H2 pv⟩
theorem Cb {K:zAa} {a:Addr} {xs:List V} {tc:TT} {te:TE} {σ:St} {ix:List Nat} {QQ:Hp->Prop} {H1:Hp} {p:Addr} (Pv:Nat->List V->Hp->Prop) (h0:Pv 0 [] (upd H1 p (.lst [])))
  (hp:∀ i ys H,i<=xs.length->Pv i ys H->H p=some (.lst ys)/\ys.length<=i/\SqL K H a xs) (hn:xs.length<=sizeLine)
  (hs:∀ i x ys H,xs[i]?=some x->Pv i ys H->tc (some x::Gb ix σ) H fun b H5=>if b=true then te (some x::Gb ix σ) H5 fun y H6=>H6 p=some (.lst ys) /\
   (some x::Gb ix σ)=(some x::Gb ix σ)/\Pv (i+1) (ys++[y]) (upd H6 p (.lst (ys++[y]))) else (some x::Gb ix σ)=(some x::Gb ix σ)/\Pv (i+1) ys H5)
  (hd:∀ ys H,Pv xs.length ys H->QQ H) :
  D2 (Fb 0) tc te 1 ix σ (KM K a) p H1 QQ:=by
 refine⟨fun i m ys σ2 H2=>m=xs.length-i/\i<=xs.length/\(∃ o,σ2=o::Gb ix σ)/\Pv i ys H2,⟨xs.length,by simp,zAD _,⟨none,rfl⟩,h0⟩,?_⟩;rintro i m ys σ2 H2 ⟨rfl,hi,⟨o,rfl⟩,pv⟩;obtain⟨hp2,hl2,hq2⟩:=hp i ys H2 hi pv;refine⟨hp2,?_⟩;by_cases hlt:i<xs.length
 ·refine .inr ⟨⟨xs,xs[i],hq2,by simp [hlt]⟩,by lia,fun x H3 y=>?_⟩
  obtain⟨e,y⟩:=y;subst e;exact⟨fun ys' σ' H'=>σ'=(some x::Gb ix σ)/\Pv (i+1) ys' H',fun ys' σ' H' ⟨e,q⟩=>⟨xs.length-(i+1),by lia,rfl,hlt,⟨_,e⟩,q⟩,hs i x ys _ (y xs hq2) pv⟩
 ·have e:i=xs.length:=by lia
  subst e;exact .inl ⟨⟨xs,hq2,zAl _⟩,hd ys H2 pv⟩
structure Cq (P:Program) (w:World) (K:zAa) (mg:Str->Option Value) (base:Heap) (k:Nat) (x:Str) (ps:List Str) (sp:Sp):Prop where
 ex:∃ f fd,FnOk P w K mg base Da k f fd ps sp/\Binds K fd ps []/\zAT K (.ref f)=true/\mg x=some (.ref f)
theorem Ax {X:Cx} {k:Nat} {x:Str} {ps:List Str} {sp:Sp} {e:Expr} {es:List Expr} {p pos:Pos} {t:TA} (C:Cq X.prog X.w X.K X.mg X.base k x ps sp) (hr:Room k X.A) (hg:Gl X x) (ha:PA X (e::es) t)
  (hdb:(x==("__debug__" : Str))=false:=by decide) (he:starEach (e::es) X.env=(false,eval e X.env)::starEach es X.env:=by rfl) (hpl:(backTo pos (starEach es X.env)).any (·.1)=false:=by rfl) :
  PE X (.Call (.Name x p) (e::es) [] pos) (P9 sp [] E0 t):=by
 obtain⟨f,fd,F,b,kp,hm⟩:=C.ex;exact HB F hr hg hm kp b .nil Vh ha hdb he hpl
structure Def (K:zAa) (mg:Str->Option Value) (x:Str) (st:Stmt) (ps:List Str):Prop where
 ex:∃ f fd,Fun K x x st f fd/\Binds K fd ps []/\mg x=some (.ref f)
theorem Def.cal {P:Program} {w:World} {K:zAa} {mg:Str->Option Value} {base:Heap} {k:Nat} {x:Str} {st:Stmt} {ps:List Str} {sp:Sp} (D:Def K mg x st ps) (h:∀ f fd,Fun K x x st f fd->FnOk P w K mg base Da k f fd ps sp):Cq P w K mg base k x ps sp:=by
 obtain⟨f,fd,F,b,m⟩:=D.ex;exact⟨f,fd,h f fd F,b,F.kp,m⟩
def Ms (mg:Str->Option Value) (x:Str) (i:Int):Prop:=∃ t,mg x=some (.int i t)
def JT (mg:Str->Option Value) (x:Str) (z:Str):Prop:=∃ t,mg x=some (.str z t)
theorem Dm {X:Cx} {x:Str} {i:Int} {pos:Pos} (h:Ms X.mg x i) (hg:Gl X x) (hd:(x==("__debug__" : Str))=false:=by decide):PE X (.Name x pos) (tC (.int i)):=by
 obtain⟨t,e⟩:=h;exact V3 hg e ⟨t,rfl⟩ hd
theorem P6 {X:Cx} {x:Str} {i:Str} {pos:Pos} (h:JT X.mg x i) (hg:Gl X x) (hd:(x==("__debug__" : Str))=false:=by decide):PE X (.Name x pos) (tC (.str i)):=by
 obtain⟨t,e⟩:=h;exact V3 hg e ⟨t,rfl⟩ hd
theorem Kx {X:Cx} {x:Str} {pos:Pos} (T:String) (hg:Gl X x) (hm:X.mg x=none) (hv:zCF x=some (.type T)) (hn:x ≠ "__name__" := by decide) (hd:(x==("__debug__" : Str))=false:=by decide):PE X (.Name x pos) (tC (.ty T)):=
 GL (v:=.ty T) hg hm hv rfl hn hd
theorem Gu {X:Cx} {K:zAa} (h:X.K=K):KO X (LW K):=h▸Bp
theorem An {H:Hp} {p:Addr} (h:H p=none) (o:HO):Same H (upd H p o):=fun b u q=>by rw[Ar (Ap q h)]; exact q
theorem Cf {n:Nat} (h:n<=1000):n<=sizeLine:=Nat.le_of_lt (X0 h)
theorem JY {ns:List Int} {i:Nat} {n:Int} (h:ns[i]?=some n):Nf (ns.map V.int) (i:Int)=some (.int n):=Ey (by rw[zAs,h]; rfl)
theorem Q1 {ns:List Int} {i:Int} (h0:0<=i) (h:i<ns.length):Nf (ns.map V.int) i=some (.int (ns.getD i.toNat 0)):=by
 have e:((i.toNat:Nat):Int)=i:=by lia
 have q:=JY (ns:=ns) (i:=i.toNat) (n:=ns.getD i.toNat 0) (by rw[zAe (by lia),zAt,zAe (by lia)]; rfl);rw[e] at q;exact q
example:zCF "int" = some (.type "int"):=by rfl
def KR (K:zAa) (a:Addr):It:=
 ⟨fun i H=>∃ xs x,SqL K H a xs/\xs[i]?=some x,
   fun i H x H'=>∃ t y,x = .ref t/\H t=none/\(∀ xs,SqL K H a xs->xs[i]?=some y)/\H'=upd H t (.tup [.int i,y]),
   fun i H=>∃ xs,SqL K H a xs/\xs.length<=i⟩
theorem AL {P:Program} {w:World} {K:zAa} {elts:List Expr} {k:Nat} {tp:Pos} (a e it:Addr) (hei:e≠it) :
  Wq P w K (.Tuple elts k tp) (KR K a) [e,it] e (fun i h=>(∃ old,IsEnum h e it i old)/\h.IsListIter it a i) where
 mem:=by simp
 obj:=fun i h st b hb=>by
  obtain⟨⟨old,he⟩,o,ho,c,d⟩:=st;rcases zAn.mp hb with rfl | hb
  ·exact⟨_,he,fun v z=>by
    have z':Data.fields _=Data.cell v:=z;cases z'⟩
  ·have eb:b=it:=by simpa using hb
   subst eb;exact⟨o,ho,fun v z=>by rw[d] at z; cases z⟩
 keep:=fun i h h' st kk=>by
  obtain⟨⟨old,he⟩,hit⟩:=st;exact⟨⟨old,kk e (by simp) _ he⟩,hit.at fun o x=>kk it (by simp) o x⟩
 item:=by
  intro X hP hw hK hc i pins s σ H E I hf st hg;subst hP hw hK;obtain⟨⟨old,he⟩,hit⟩:=st;obtain⟨xs,x,hq,hx⟩:=hg;obtain⟨its,rv,p,hz⟩:=I.list hq;obtain⟨u,hu,ru⟩:=rv.get hx;obtain⟨e0,e1,e2,e3,e4,e5⟩:=hf e (by simp);obtain⟨i0,i1,i2,i3,i4,i5⟩:=hf it (by simp);refine wpAny_pyNext_enum_item he hit p.isList (x:=u) (by simpa using hu) hei fun h1 ho hit1 hT hsz hk=>⟨_,rfl,?_⟩;refine wpAny_letOwnedTupleGo_enum ho fun h2 he2 hs2=>?_;have hs2':zAU e h1 h2:=hs2;have helt:e<s.heap.objs.size:=zAp he;have hnT:H s.heap.objs.size=none:=I.hok.fresh (zAl _);have up:∀ b o,b≠e->b≠it->s.heap.get? b=some o->h2.get? b=some o:=fun b o h3 h4 q=>(hs2'.2 b h3).trans (hk b o h3 h4 q);have nch:∀ b,b∉[e,it]->b≠e/\b≠it:=fun b hb=>⟨fun z=>hb (by simp [z]),fun z=>hb (by simp [z])⟩;have ntr:∀ b o,H b=some o->b≠e/\b≠it:=fun b o q=>⟨fun z=>by (rw[z,e0] at q; cases q),fun z=>by (rw[z,i0] at q; cases q)⟩;have htup:h2.get? s.heap.objs.size=some { cls:=.type "tuple",data:=.seq #[.int i s.toks,u] }:=(hs2'.2 _ (zBk helt)).trans hT;have I1:Inv X pins σ (upd H s.heap.objs.size (.tup [.int i,x])) { s with heap:=h2,gens:=s.gens,drawn:=s.drawn,toks:=s.toks+1 }:=by
   refine I.step (ch:=[e,it]) (fun b hb=>?_) (fun b o _ _ hb q _=>up b o (nch b hb).1 (nch b hb).2 q) (fun b o _ _ hb q _=>⟨o.slots,up b o (nch b hb).1 (nch b hb).2 q⟩) (fun b o _ q n=>by rw[Ar (zAw (zAp q))]; exact n)
    (fun b o hb q=>⟨o,up b o (nch b hb).1 (nch b hb).2 q⟩) (fun b xs q=>by rw[Ar (Ap q hnT)]; exact q) (fun b o u q=>by rw[Ar (Ap q hnT)]; exact q) (fun b ps q=>⟨#[],by rw[Ar (Ap q hnT),q]; simp⟩)
    (fun m hm=>?_) (fun b o q=>?_) I.bare
   ·rcases zAn.mp hb with rfl | hb
    ·exact⟨e3,e1,e4,e5⟩
    ·have eb:b=it:=by simpa using hb
     subst eb;exact⟨i3,i1,i4,i5⟩
   ·obtain⟨o,es,ep,hoL,r⟩:=hm
    exact⟨o,es,ep,up _ o (Ne.symm e1) (Ne.symm i1) hoL,r⟩
   ·by_cases hb:b=s.heap.objs.size
    ·subst hb
     rw[Ab] at q;cases q;exact⟨Cf (by show 2<=1000; decide),[.int i s.toks,u],.cons ⟨_,rfl⟩ (.cons ru .nil),_,htup,rfl,_,rfl⟩
    ·rw[Ar hb] at q
     refine (I.hok b o q).stay (fun c v hc2 q2=>?_) (fun c q2=>by rw[Ar (Ap q2 hnT)]; exact q2) (fun c xs q2=>by rw[Ar (Ap q2 hnT)]; exact q2);rcases hc2 with rfl | hc2
     ·exact up _ v (ntr _ _ q).1 (ntr _ _ q).2 q2
     ·exact up _ v (ntr _ _ hc2).1 (ntr _ _ hc2).2 q2
  refine⟨.ref s.heap.objs.size,_,I1,rfl,⟨_,x,rfl,hnT,fun ys hy=>by rw[I.list_inj hy hq]; exact hx,rfl⟩,⟨⟨u,?_⟩,?_⟩,fun b hb=>?_⟩
  ·have ei:((i+1:Nat):Int)=(i:Int)+1:=by lia
   rw[ei];exact he2
  ·exact hit1.at fun o q=>(hs2'.2 it hei.symm).trans q
  ·have hbl:b<s.heap.objs.size:=by
    rcases zAn.mp hb with rfl | hb
    ·exact helt
    ·have eb:b=it:=by simpa using hb
     subst eb;obtain⟨o,q,_⟩:=hit;exact zAp q
   rw[Ar (zAw hbl)];exact (hf b hb).1
 done:=by
  intro X hP hw hK hc i pins s σ H E I hf st hg;subst hP hw hK;obtain⟨⟨old,he⟩,hit⟩:=st;obtain⟨xs,hq,hx⟩:=hg;obtain⟨its,rv,p,hz⟩:=I.list hq;obtain⟨i0,i1,i2,i3,i4,i5⟩:=hf it (by simp);have hl:=rv.length;exact wpAny_pyNext_enum_end (I.ok.hd hc) he hit p.isList (by simp; lia) fun h' eb=>⟨rfl,I.turned (t':=s.toks) (fun b o hb q=>eb b o hb q) i0 i1 i3 i4 i5⟩
 self:=fun _ _ _ _ _ st h=>by
  obtain⟨⟨old,he⟩,_⟩:=st;exact wpAny_pyIter_enum he h
def MJ (K:zAa) (ta:TA):TI:=fun σ H R=>ta σ H fun vs H1=>∃ a,vs=[.ref a]/\(∃ xs,SqL K H1 a xs)/\R (KR K a) H1
theorem Mn {X:Cx} {a:Expr} {ta:TA} {p pos tp:Pos} {elts:List Expr} {k:Nat} (hg:Gl X "enumerate") (hm:X.mg "enumerate" = none) (ha:PA X [a] ta) (hs:starEach [a] X.env=[(false,eval a X.env)]:=by rfl) :
  PI X (.Tuple elts k tp) (.Call (.Name "enumerate" p) [a] [] pos) (MJ X.K ta):=by
 intro pins s σ H R I h;refine Call_ (Hg I hg hm (show zCF "enumerate" = some (.type "enumerate") from rfl) (PyProof.Rows.callWith_type1 (Cw (ha pos pins s σ H _ I h) fun us s1 ⟨vs,H1,I1,r1,q1⟩=>?_) hs rfl));obtain⟨a,ev,⟨xs,hq⟩,q⟩:=q1;subst ev;obtain⟨u,rfl,rx⟩:=Jb r1;cases rx;obtain⟨its,rv,pl,hz⟩:=I1.list hq;refine call_enumerate_list pl.isList fun h' he hit hsz hk=>?_;refine wpAny_pyIter_enum he ?_;have I2:Inv X pins σ H1 { s1 with heap:=h' }:=I1.kept (t':=s1.toks) hk;refine⟨_,[s1.heap.objs.size+1,s1.heap.objs.size],_,_,H1,rfl,I2,AL a _ _ (Nat.succ_ne_self _),⟨⟨_,he⟩,hit⟩,fun b hb=>?_,q⟩;rcases zAn.mp hb with rfl | hb
 ·exact I1.fpOk (zBl _) (I1.hok.fresh (zBl _))
 ·have eb:b=s1.heap.objs.size:=by simpa using hb
  subst eb;exact I1.fpOk (zAl _) (I1.hok.fresh (zAl _))
theorem V5 {X:Cx} {K:zAa} {es:List Expr} {k:Nat} {t:IF} {n:Nat} {pos:Pos} (hK:X.K=K) (hc:X.calm=true) (h:MK X es t)
  (hn:(assignEach es X.env).length=n:=by rfl) (hst:(assignEach es X.env).findIdx? (·.1)=none:=by rfl):PG X (.Tuple es k pos) (X5 K n t):=hK▸Ea hc h hn hst
theorem Vj {K K':zAa} {a:Addr} {xs:List V} {tc:TT} {te:TE} {σ:St} {ix:List Nat} {QQ:Hp->Prop} {H1:Hp} {p:Addr} (Pv:Nat->List V->Hp->Prop) (h0:Pv 0 [] (upd H1 p (.lst [])))
  (hp:∀ i ys H,i<=xs.length->Pv i ys H->H p=some (.lst ys)/\ys.length<=i/\SqL K H a xs) (hn:xs.length<=sizeLine)
  (hs:∀ i x ys H t,xs[i]?=some x->Pv i ys H->H t=none->tc (some (.int i)::some x::Gb ix σ) (upd H t (.tup [.int i,x])) fun b H5=>if b=true then te (some (.int i)::some x::Gb ix σ) H5 fun y H6=>H6 p=some (.lst ys) /\
   (some (.int i)::some x::Gb ix σ)=(some (.int i)::some x::Gb ix σ)/\Pv (i+1) (ys++[y]) (upd H6 p (.lst (ys++[y]))) else (some (.int i)::some x::Gb ix σ)=(some (.int i)::some x::Gb ix σ)/\Pv (i+1) ys H5)
  (hd:∀ ys H,Pv xs.length ys H->QQ H) :
  D2 (X5 K' 2 (Nc (Fb 0) (Nc (Fb 1) AX))) tc te 2 ix σ (KR K a) p H1 QQ:=by
 refine⟨fun i m ys σ2 H2=>m=xs.length-i/\i<=xs.length/\(∃ o o',σ2=o::o'::Gb ix σ)/\Pv i ys H2,⟨xs.length,by simp,zAD _,⟨none,none,rfl⟩,h0⟩,?_⟩;rintro i m ys σ2 H2 ⟨rfl,hi,⟨o,o',rfl⟩,pv⟩;obtain⟨hp2,hl2,hq2⟩:=hp i ys H2 hi pv;refine⟨hp2,?_⟩;by_cases hlt:i<xs.length
 ·refine .inr ⟨⟨xs,xs[i],hq2,by simp [hlt]⟩,by lia,fun x H3 y=>?_⟩
  obtain⟨t,z,ex,ht,hz,e3⟩:=y;subst ex e3;refine⟨fun ys' σ' H'=>σ'=(some (.int i)::some z::Gb ix σ)/\Pv (i+1) ys' H',fun ys' σ' H' ⟨e,q⟩=>⟨xs.length-(i+1),by lia,rfl,hlt,⟨_,_,e⟩,q⟩,?_⟩;exact⟨t,_,rfl,SqT.of Ab,rfl,_,_,rfl,_,_,rfl,rfl,hs i z ys H2 t (hz xs hq2) pv ht⟩
 ·have e:i=xs.length:=by lia
  subst e;exact .inl ⟨⟨xs,hq2,zAl _⟩,hd ys H2 pv⟩
structure Ix (P:Program) (w:World) (K:zAa) (mg:Str->Option Value) (base:Heap) (k:Nat) (C:Addr) (m:Str) (ps:List Str) (sp:Sp):Prop where
 ex:∃ f fd,FnOk P w K mg base Da k f fd ps sp/\Binds K fd ps []/\Ei K C m f
 cl:Cls K C
theorem Ec {X:Cx} {k:Nat} {C:Addr} {m:Str} {ps:List Str} {sp:Sp} {e o:Expr} {es:List Expr} {apos pos:Pos} {ta:TE} {t:TA} {pl:Sem Bool} (M:Ix X.prog X.w X.K X.mg X.base k C m ps sp) (hr:Room k X.A) (he:PE X o ta) (ha:PA X (e::es) t)
  (hst:starEach (e::es) X.env=(false,eval e X.env)::starEach es X.env:=by rfl) (hpl:(backTo pos (starEach es X.env)).any (·.1)=false:=by rfl)
  (ht:eval (.Call (.Attribute o m apos) (e::es) [] pos) X.env=(do
   let ov <- eval o X.env
   standAt apos.atName
   let (f,first) <- holding [ov] (getMethod ov m pl)
   callWith pos f first (backTo pos (starEach (e::es) X.env)) (backToKw pos (keywordEach [] X.env))):=by rfl) :
  PE X (.Call (.Attribute o m apos) (e::es) [] pos) (HY C m sp [] E0 ta t):=by
 obtain⟨f,fd,F,b,hm⟩:=M.ex;exact GF he M.cl hm F hr b .nil Vh ha hst hpl ht
structure Ej (P:Program) (w:World) (K:zAa) (mg:Str->Option Value) (base:Heap) (k:Nat) (x:Str) (C:Addr) (ps:List Str) (sp:Sp):Prop where
 ex:∃ f fd,Mk K C f/\FnOk P w K mg base Da k f fd ps sp/\Binds K fd ps []/\mg x=some (.ref C)
theorem Dd {X:Cx} {k:Nat} {x:Str} {C:Addr} {ps:List Str} {sp:Sp} {e:Expr} {es:List Expr} {p pos:Pos} {t:TA} (M:Ej X.prog X.w X.K X.mg X.base k x C ps sp) (hr:Room (k+1) X.A) (hg:Gl X x) (ha:PA X (e::es) t)
  (hdb:(x==("__debug__" : Str))=false:=by decide) (he:starEach (e::es) X.env=(false,eval e X.env)::starEach es X.env:=by rfl) (hpl:(backTo pos (starEach es X.env)).any (·.1)=false:=by rfl) :
  PE X (.Call (.Name x p) (e::es) [] pos) (W0 C sp [] E0 t):=by
 obtain⟨f,fd,mk,F,b,hm⟩:=M.ex;exact FM mk F hr hg hm b .nil Vh ha hdb he hpl
theorem KP {X:Cx} (hc:X.calm=true):Gc X (.builtin "min") (fun xs H Q=>∃ p,∃ ns:List Int,xs=[.ref p]/\SqL X.K H p (ns.map V.int)/\ns≠[]/\∀ m∈ns,Q (.int m) H):=by
 intro pins s σ H xs us Q I r h;obtain⟨p,ns,rfl,hq,hne,q⟩:=h;obtain⟨u,rfl,rx⟩:=Jb r;cases rx;obtain⟨its,rv,pl,hz⟩:=I.list hq;have hi:IntsAre its ns:=Lm rv;obtain⟨ys,ey⟩:=hi.allInts.items;have hl:s.heap.IsList p (intItems ys):=ey▸pl.isList;have lenI:its.length=ns.length:=hi.length;have hy:ys.size=ns.length:=by
  have z:=congrArg Array.size ey;rw[zAh] at z;unfold intItems at z;rw[Array.size_map] at z
  lia
 have hpos:0<ns.length:=List.length_pos_iff.mpr hne;refine min_intList (I.ok.hd hc) hl (by lia) fun v h' tk hv hk=>?_;rw[<- ey] at hv;have hv':∃ j,its[j]?=some v:=⟨_,by simpa using hv⟩;obtain⟨j,hj⟩:=hv';have hlt:j<ns.length:=by have:=(zAi.mp hj).1; lia
 obtain⟨u,hu,ru⟩:=rv.get (i:=j) (x:=.int ns[j]) (by rw[zAs,zAe hlt]; rfl);rw[hj] at hu;cases hu;exact⟨.int ns[j],H,I.kept hk,ru,q _ (zBc _)⟩
section
variable {X:Cx} {pins:List (Addr×Obj)} {σ:St} {H H':Hp} {s:Shared} {h':Heap}
end
section
variable {X:Cx} {k:Nat} {f:Addr} {fd:zCG} {ps:List Str} {sp:Sp} {x:Str} {p pos:Pos} {e:Expr} {es:List Expr} {t:TA} {W:St->XK}
end
section
variable {X:Cx} {pins pins' pn:List (Addr×Obj)} {σ:St} {H:Hp} {s:Shared} {E:Value->Shared->Prop} {e:Addr}
end
section
variable {X:Cx} {x n:Str} {Ch:Addr} {i:Nat} {body suite:List Stmt} {b₀ : Stmt} {tb:(St->XK)->TS} {ts:TS} {np hpos pos:Pos}
end
structure HS (k:Nat) (A:Around):Prop where
 dp:A.depth+3*k+5<recursionLimit
 un:A.units+16*k+200<cLine
structure LE (P:Program) (w:World) (K:zAa) (mg:Str->Option Value) (base:Heap) (k:Nat) (f:Addr) (fd:zCG) (ps:List Str) (sp:Sp):Prop where
 len:∀ vs H Q E,sp vs H Q E->vs.length=ps.length
 run:∀ (A:Around) (outer:List Env) (s:Shared) (H:Hp) (args:Args) (us:List Value) (vs:List V) (Q:VK) (E:XK),HS k A->Env0 P w K mg base A outer s H->BindsTo s fd args (ps.zip us)->Vals vs us->sp vs H Q E ->
  codeAny (model P w) A (.call (.ref f) args) (CR Da outer P w H s Q E) s
structure OR (P:Program) (w:World) (K:zAa) (mg:Str->Option Value) (base:Heap) (k:Nat) (x:Str) (ps:List Str) (sp:Sp):Prop where
 ex:∃ f fd,LE P w K mg base k f fd ps sp/\Binds K fd ps []/\zAT K (.ref f)=true/\mg x=some (.ref f)
section
variable {X:Cx} {k:Nat} {f:Addr} {fd:zCG} {ps:List Str} {sp:Sp} {x:Str} {p pos:Pos} {e:Expr} {es:List Expr} {t:TA}
theorem KW (C:OR X.prog X.w X.K X.mg X.base k x ps sp) (hr:HS k X.A) (hg:Gl X x) (ha:PA X (e::es) t)
  (hdb:(x==("__debug__" : Str))=false:=by decide) (he:starEach (e::es) X.env=(false,eval e X.env)::starEach es X.env:=by rfl) (hpl:(backTo pos (starEach es X.env)).any (·.1)=false:=by rfl) :
  PE X (.Call (.Name x p) (e::es) [] pos) (P9 sp [] E0 t):=by
 intro pins s σ H Q I h;obtain⟨f,fd,F,b,kp,hm⟩:=C.ex;refine wpAny_Call_Name_kw (Hb I hg hm ?_ hdb);refine zBB (h₀ := X.base) I.ok.mod.kin kp (Cw (ha pos pins s σ H _ I h) fun us s1 ⟨vs,H1,I1,r,q⟩=>⟨I1.kIn,?_⟩) he hpl;have q:sp vs H1 Q E0:=by
  have q':sp (vs++[]) H1 Q E0:=q;rw[zAN] at q';exact q'
 have hl:(us++[]).length=ps.length:=by rw[zAN,<- r.length]; exact F.len _ _ _ _ q
 have b':=b s1 us I1.kIn hl;rw[zAN] at b';refine wpAny_call (codeAny_mono (F.run X.A X.stack s1 H1 ⟨us,[]⟩ us vs Q E0 hr I1.env0 b' r q) fun y s' hq=>?_);cases y with
 | error v=>exact False.elim hq
 | ok fl=>
  cases fl with
  | ret u=>exact I1.after hq
  | next=>exact False.elim hq
  | brk=>exact False.elim hq
  | cont=>exact False.elim hq
end
def tx (l:List Nat):Str:=⟨l.toArray⟩
theorem Fx (l:List Nat):(tx l).length=l.length:=by simp [tx,Str.length]
theorem CP (x:Str):tx x.cps.toList=x:=by cases x; rfl
theorem Sh (l m:List Nat):tx l++tx m=tx (l++m):=by
 show (⟨l.toArray++m.toArray⟩:Str)=⟨(l++m).toArray⟩;rw[List.append_toArray]
def Vu (c:Nat):List Nat->List (List Nat)
 | []=>[[]]
 | x::l=>if x=c then []::Vu c l else match Vu c l with
  | []=>[[x]]
  | p::r=>(x::p)::r
theorem MQ (c:Nat):∀ l,Vu c l≠[]
 | []=>by simp [Vu]
 | x::l=>by
  unfold Vu
  split
  ·simp
  ·cases Vu c l <;> simp
section
variable {X:Cx}
theorem AC:Jm X (compareOp .NotIn) (fun x y H Q=>∃ c z,x = .str (tx [c])/\y = .str z/\Q (.bl (!decide (c∈z.cps.toList))) H):=by
 intro pins s σ H x y v u Q I rx ry h;obtain⟨c,z,rfl,rfl,q⟩:=h;refine Xo pins s σ H _ _ v u Q I rx ry ⟨tx [c],z,rfl,rfl,?_⟩;rw[show (!(Builtin.Str.occurrences z (tx [c]) 0 z.length 1).isEmpty)=decide (c∈z.cps.toList) from StrLaws.found_one z c];exact q
def KN (x:Str):It:=⟨fun i _=>i<x.cps.size,fun i H v H'=>H'=H/\∃ c,x.cps[i]?=some c/\v = .str (tx [c]),fun i _=>x.cps.size<=i⟩
theorem Z2 {P:Program} {w:World} {K:zAa} {tg:Expr} (x:Str) (t:Tok) (it:Addr):Wq P w K tg (KN x) [it] it (fun i h=>h.IsStrIter it "str_ascii_iterator" x t i) where
 mem:=by simp
 obj:=fun i h st b hb=>by
  have e:b=it:=by simpa using hb
  subst e;obtain⟨o,e,c,d⟩:=st;exact⟨o,e,fun v z=>by rw[d] at z; cases z⟩
 keep:=fun i h h' st k=>by
  obtain⟨o,e,c,d⟩:=st;exact⟨o,k it (by simp) o e,c,d⟩
 item:=by
  intro X hP hw hK hc i pins s σ H E I hf st hg;subst hP hw hK;obtain⟨f0,f1,f2,f3,f4,f5⟩:=hf it (by simp);have hi:i<x.cps.size:=hg;refine wpAny_pyNext_ascii_item st (c:=x.cps[i]) (by simp [hi]) fun h' st' sb=>?_;have I1:Inv X pins σ H { s with heap:=h',toks:=s.toks+1 }:=I.turned (fun b o hb e=>(sb.2 b hb).trans e) f0 f1 f3 f4 f5;obtain⟨o,e,c,d⟩:=id st';exact⟨_,rfl,U5 (s:={ s with heap:=h',toks:=s.toks+1 }) e c d (by decide) ⟨.str (tx [x.cps[i]]),H,I1,⟨_,rfl⟩,⟨rfl,_,by simp [hi],rfl⟩,st',fun b hb=>(hf b hb).1⟩⟩
 done:=by
  intro X hP hw hK hc i pins s σ H E I hf st hg;subst hP hw hK;obtain⟨f0,f1,f2,f3,f4,f5⟩:=hf it (by simp);have hi:x.cps.size<=i:=hg;exact wpAny_pyNext_ascii_end (I.ok.hd hc) st (by simp; lia) fun h' eb=>⟨rfl,I.turned (t':=s.toks) (fun b o hb e=>eb b o hb e) f0 f1 f3 f4 f5⟩
 self:=fun _ _ _ _ _ st h=>wpAny_pyIter_striter_ascii st h
theorem AH {P:Program} {w:World} {K:zAa} {tg:Expr} (x:Str) (t:Tok) (it:Addr):Wq P w K tg (KN x) [it] it (fun i h=>h.IsStrIter it "str_iterator" x t i) where
 mem:=by simp
 obj:=fun i h st b hb=>by
  have e:b=it:=by simpa using hb
  subst e;obtain⟨o,e,c,d⟩:=st;exact⟨o,e,fun v z=>by rw[d] at z; cases z⟩
 keep:=fun i h h' st k=>by
  obtain⟨o,e,c,d⟩:=st;exact⟨o,k it (by simp) o e,c,d⟩
 item:=by
  intro X hP hw hK hc i pins s σ H E I hf st hg;subst hP hw hK;obtain⟨f0,f1,f2,f3,f4,f5⟩:=hf it (by simp);have hi:i<x.cps.size:=hg;refine wpAny_pyNext_wide_item st (c:=x.cps[i]) (by simp [hi]) fun h' st' sb=>?_;have I1:Inv X pins σ H { s with heap:=h',toks:=s.toks+1 }:=I.turned (fun b o hb e=>(sb.2 b hb).trans e) f0 f1 f3 f4 f5;obtain⟨o,e,c,d⟩:=id st';exact⟨_,rfl,U5 (s:={ s with heap:=h',toks:=s.toks+1 }) e c d (by decide) ⟨.str (tx [x.cps[i]]),H,I1,⟨_,rfl⟩,⟨rfl,_,by simp [hi],rfl⟩,st',fun b hb=>(hf b hb).1⟩⟩
 done:=by
  intro X hP hw hK hc i pins s σ H E I hf st hg;subst hP hw hK;obtain⟨f0,f1,f2,f3,f4,f5⟩:=hf it (by simp);have hi:x.cps.size<=i:=hg;exact wpAny_pyNext_wide_end (I.ok.hd hc) st (by simp; lia) fun h' eb=>⟨rfl,I.turned (t':=s.toks) (fun b o hb e=>eb b o hb e) f0 f1 f3 f4 f5⟩
 self:=fun _ _ _ _ _ st h=>wpAny_pyIter_striter_wide st h
def OU (tl:TE):TI:=fun σ H R=>tl σ H fun x H1=>∃ z,x = .str z/\R (KN z) H1
theorem JE {tg l:Expr} {tl:TE} (hl:PE X l tl):PI X tg l (OU tl):=by
 intro pins s σ H R I h;refine Cw (hl pins s σ H _ I h) fun v s1 ⟨x,H1,I1,r1,q1⟩=>?_;obtain⟨z,e,q⟩:=q1;subst e;obtain⟨t,rfl⟩:=r1;have fp:∀ b∈[s1.heap.objs.size],Oo X pins H1 b:=fun b hb=>by
  have e:b=s1.heap.objs.size:=by simpa using hb
  subst e;exact I1.fpOk (zAl _) (I1.hok.fresh (zAl _))
 cases ha:z.cps.all (· < 128) with
 | true=>exact wpAny_pyIter_ascii ha ⟨s1.heap.objs.size,[s1.heap.objs.size],_,_,H1,rfl,I1.kept (t':=s1.toks) fun b o e=>zAd _ e,Z2 z t _,⟨_,zAu _ rfl,rfl,rfl⟩,fp,q⟩
 | false=>exact wpAny_pyIter_wide ha ⟨s1.heap.objs.size,[s1.heap.objs.size],_,_,H1,rfl,I1.kept (t':=s1.toks) fun b o e=>zAd _ e,AH z t _,⟨_,zAu _ rfl,rfl,rfl⟩,fp,q⟩
theorem GS {l:List Nat} {g:TG} {tb:TS} {D:Om} {σ:St} {H:Hp} (Pv:Nat->St->Hp->Prop) (h0:Pv 0 σ H)
  (hs:∀ i c σ H,l[i]?=some c->Pv i σ H->g (.str (tx [c])) σ H fun σ2 H2=>tb { D with nx:=Pv (i+1),ct:=Pv (i+1),bk:=D.nx } σ2 H2) (hd:∀ σ H,Pv l.length σ H->D.nx σ H) :
  ∃ W:Nat->Nat->St->Hp->Prop,(∃ m,W 0 m σ H)/\∀ i m σ H,W i m σ H ->
   ((KN (tx l)).stop i H/\D.nx σ H)\/((KN (tx l)).go i H/\∃ N:St->Hp->Prop,(∀ σ' H',N σ' H'->∃ m',m'<m/\W (i+1) m' σ' H')/\∀ x H',(KN (tx l)).yld i H x H'->g x σ H' fun σ2 H2=>tb { D with nx:=N,ct:=N,bk:=D.nx } σ2 H2):=by
 have hz:(tx l).cps.size=l.length:=by simp [tx]
 refine⟨fun i m σ H=>m=l.length-i/\i<=l.length/\Pv i σ H,⟨l.length,by simp,zAD _,h0⟩,?_⟩;rintro i m σ H ⟨rfl,hi,p⟩;by_cases hlt:i<l.length
 ·refine .inr ⟨by show i<(tx l).cps.size; lia,Pv (i+1),fun σ' H' p'=>⟨l.length-(i+1),by lia,rfl,hlt,p'⟩,fun x H' y=>?_⟩
  obtain⟨e,c,hc,y⟩:=y;subst e y;exact hs i c σ _ (by simpa [tx] using hc) p
 ·have e:i=l.length:=by lia
  subst e;exact .inl ⟨by show (tx l).cps.size<=l.length; lia,hd σ H p⟩
end
section
variable {prog:Program} {w:World} {A:Around} {E:Value->Shared->Prop} {K:zAa} {x D:Addr} {ox:Obj} {od:Option Obj}
end
section
variable {X:Cx} {k:Nat} {f C:Addr} {fd:zCG} {ps:List Str} {sp:Sp} {x:Str} {p pos:Pos} {e:Expr} {es:List Expr} {t:TA} {W:St->XK}
end
section
variable {X:Cx} {x:Str} {C f:Addr} {p pos:Pos} {e:Expr} {es:List Expr} {t:TA}
end
section
variable {prog:Program} {w:World} {A:Around} {Ex:Value->Shared->Prop} {hp:Heap} {gs:Array GenState} {dr:Drawn} {tk:Nat} {os:OsState}
variable {nm q:Str} {C N fI:Addr} {bs bm bmB:List Value} {hdct:Bool} {sn:List Str} {sub:List Value} {ab:Bool} {col:Option Bool} {dd:Option Addr} {k0 k1 k2 k3 k5:Option Value} {B newId initId:String} {mN:Str->Option Value} {us:List Value} {oI:Obj}
theorem Ue {Q:Fin->Shared->Prop} (FB:ExcBaseFacts B newId initId bmB) (T:OwnTail hp bmB bm) (cO:hp.get? C=some (excClassObj nm q C N bs bm hdct sn sub ab col dd k0 k1 k2 k3 k5 newId)) (nN:hp.Ns N mN)
  (iN:mN "__init__" = some (.ref fI)) (fO:hp.get? fI=some oI) (fC:oI.cls = .type "function") (sz:us.length<=sizeLine)
  (k:∀ h1 e,Heap.MadeExcOf hp h1 e (.ref C) us->wpAny (model prog w) A (call (.ref fI) (.ref e::us)) (fun r s1=>r = .none/\Q (.done (.ret (.ref e))) s1) Ex ⟨h1,gs,dr,tk,os⟩) :
  wpAny (model prog w) A (Builtin.«type.__call__» ⟨.ref C::us,[]⟩) Q Ex ⟨hp,gs,dr,tk,os⟩:=by
 repeat (first | with_reducible refine wpAny_loadPart_at cO ?_ | with_reducible refine wpAny_madeBy_exc cO ?_ | wp_step)
 refine codeAny_call_builtin_code (Code.quiet_builtin _ FB.quiet) (wpAny_check_new_subT FB T cO (codeAny_exc_new_subT FB T cO ?_ sz));show wpAny _ _ _ _ _ _;have keep:∀ b o,hp.get? b=some o->((hp.push { cls:=.type "tuple",data:=.seq us.toArray }).push { cls:=.ref C,data:=.fields #[.ref hp.objs.size,.none,.none,.none,.bool false,.none] }).get? b=some o:=
  fun b o z=>zAd _ (zAd _ z)
 have cO1:=keep _ _ cO;have new:((hp.push { cls:=.type "tuple",data:=.seq us.toArray }).push { cls:=.ref C,data:=.fields #[.ref hp.objs.size,.none,.none,.none,.bool false,.none] }).get? (hp.objs.size+1)
   = some { cls:=.ref C,data:=.fields #[.ref hp.objs.size,.none,.none,.none,.bool false,.none] }:=by heap_get
 have inC:(Value.ref C::bm).contains (.ref C)=true:=by simp
 unfold isInstance
 repeat (first | with_reducible refine wpAny_loadPart_at new ?_ | (with_reducible refine wpAny_isSubtype_exc cO1 ?_; rw[inC]) | wp_step)
 show wpAny _ _ (typeLookup (.ref C) _) _ _ _;refine wpAny_typeLookup_tail cO1 (nN.keeps keep) (T.keeps keep) FB.mroIs FB.init.lookup ?_;rw[iN];refine wpAny_holding (zCC ?_);unfold bindSpecial;refine zCC (wpAny_typeOf (T := "function") ⟨_,keep _ _ fO,fC⟩ ?_);rw[if_pos (by decide)];refine zCD (zCC (wpAny_mono (k _ (hp.objs.size+1) ⟨keep,Heap.get?_none_of_le (zBl _),hp.objs.size,new,Heap.get?_none_of_le (zAl _),?_⟩) (fun r s1 hr=>?_) fun _ _ z=>z))
 ·exact zAd _ (Heap.get?_push_at rfl rfl)
 ·obtain⟨rfl,hQ⟩:=hr
  wp_walk
  exact hQ
theorem MB {Q:Value->Shared->Prop} (FB:ExcBaseFacts B newId initId bmB) (T:OwnTail hp bmB bm) (cO:hp.get? C=some (excClassObj nm q C N bs bm hdct sn sub ab col dd k0 k1 k2 k3 k5 newId)) (nN:hp.Ns N mN)
  (iN:mN "__init__" = some (.ref fI)) (fO:hp.get? fI=some oI) (fC:oI.cls = .type "function") (sz:us.length<=sizeLine)
  (k:∀ h1 e,Heap.MadeExcOf hp h1 e (.ref C) us->wpAny (model prog w) (A.under (.builtin "type.__call__" ⟨.ref C::us,[]⟩)) (call (.ref fI) (.ref e::us)) (fun r s1=>r = .none/\Q (.ref e) s1) Ex ⟨h1,gs,dr,tk,os⟩) :
  wpAny (model prog w) A (call (.ref C) us) Q Ex ⟨hp,gs,dr,tk,os⟩:=by
 have l1:=tc_lookup;have l2:=tc_bind (.ref C);have isT:(⟨hp,gs,dr,tk,os⟩:Shared).TypeIs (.ref C) "type" := ⟨_,cO,rfl⟩;refine wpAny_call (codeAny_of_tree ?_);show wpAny _ _ (callAny (.ref C) _) _ _ _
 repeat (any_goals (first | assumption | with_reducible refine wpAny_loadPart_at cO ?_ | wp_step))
 refine⟨rfl,codeAny_call_builtin_at (Code.quiet_builtin _ (by decide +kernel)) entry_typeCall (wpAny_check_type_call_sub cO (Ue FB T cO nN iN fO fC sz fun h1 e m=>?_))⟩;exact k h1 e m
end
section
variable {prog:Program} {w:World} {A:Around} {E:Value->Shared->Prop} {K:zAa} {x D:Addr} {ox:Obj} {od:Option Obj}
end
section
variable {X:Cx} {pins:List (Addr×Obj)} {σ:St} {H:Hp} {s:Shared} {e:Addr}
end
section
variable {X:Cx} {x f:Str} {C g:Addr} {p pos apos:Pos} {e o value:Expr} {es:List Expr} {t:TA} {ta tv:TE}
end
section
variable {X:Cx}
end
inductive D where
 | at (v:V)
 | seq (t:Bool) (ds:List D)
mutual
def Qa (K:zAa) (H:Hp):D->V->Prop
 | .at v,x=>x=v/\Eo v=true
 | .seq t ds,x=>∃ a xs,x = .ref a/\(t=true->SqT K H a xs)/\(t=false->SqL K H a xs)/\Reps K H ds xs
def Reps (K:zAa) (H:Hp):List D->List V->Prop
 | [],xs=>xs=[]
 | d::ds,xs=>∃ y ys,xs=y::ys/\Qa K H d y/\Reps K H ds ys
end
mutual
def AQ:D->D->Bool
 | .at v,.at u=>Pq v u
 | .seq t ds,.seq u es=>t==u&&eqDs ds es
 | _,_=>false
def eqDs:List D->List D->Bool
 | [],[]=>true
 | d::ds,e::es=>AQ d e&&eqDs ds es
 | _,_=>false
end
mutual
def EZ:D->Nat
 | .at _=>0
 | .seq _ ds=>deps ds+1
def deps:List D->Nat
 | []=>0
 | d::ds=>max (EZ d) (deps ds)
end
theorem Reps.len {K:zAa} {H:Hp}:∀ {ds:List D} {xs:List V},Reps K H ds xs->ds.length=xs.length
 | [],xs,h=>by unfold Reps at h; subst h; rfl
 | d::ds,xs,h=>by
  unfold Reps at h;obtain⟨y,ys,rfl,_,h⟩:=h;rw[zAg,zAg,Reps.len h]
def LY (ds es:List D) (j:Nat):Bool:=match ds[j]?,es[j]? with
 | some d,some e=>AQ d e
 | _,_=>true
theorem Sb:∀ {ds es:List D},ds.length≠es.length->eqDs ds es=false
 | [],[],h=>absurd rfl h
 | [],_::_,_=>by unfold eqDs; rfl
 | _::_,[],_=>by unfold eqDs; rfl
 | d::ds,e::es,h=>by
  unfold eqDs;rw[Sb (ds:=ds) (es:=es) fun q=>h (by rw[zAg,zAg,q]),zBY]
theorem Rh:∀ {ds es:List D},ds.length=es.length->(zAM ds.length).all (LY ds es)=eqDs ds es
 | [],[],_=>by unfold eqDs; rfl
 | [],_::_,h=>by simp at h
 | _::_,[],h=>by simp at h
 | d::ds,e::es,h=>by
  have ih:=Rh (ds:=ds) (es:=es) (by simpa using h);unfold eqDs;rw[zAg,List.range_succ_eq_map,zCy,List.all_map,<- ih];rfl
theorem DK {v:V} (h:Eo v=true):Pq v v=true:=by
 cases v <;> first | exact absurd (show false=true from h) zAm | rfl | simp [Pq]
section
variable {X:Cx} {pins:List (Addr×Obj)} {σ:St} {H:Hp} {s:Shared}
theorem C6 {a:Addr} {xs ys:List V} (I:Inv X pins σ H s) (h1:SqL X.K H a xs) (h2:SqT X.K H a ys):False:=by
 obtain⟨its,_,p,_⟩:=I.list h1;obtain⟨js,_,q,_⟩:=I.tuple h2;exact SeqAt.ne_of_list_tuple p.isList q rfl
mutual
theorem Ze (I:Inv X pins σ H s):∀ (d e:D) (x:V),Qa X.K H d x->Qa X.K H e x->AQ d e=true
 | .at v,.at u,x,h1,h2=>by
  unfold Qa at h1 h2;obtain⟨rfl,f⟩:=h1;obtain⟨rfl,_⟩:=h2;unfold AQ;exact DK f
 | .at v,.seq t ds,x,h1,h2=>by
  unfold Qa at h1 h2;obtain⟨rfl,f⟩:=h1;obtain⟨a,xs,rfl,_⟩:=h2;exact absurd (show false=true from f) zAm
 | .seq t ds,.at u,x,h1,h2=>by
  unfold Qa at h1 h2;obtain⟨rfl,f⟩:=h2;obtain⟨a,xs,rfl,_⟩:=h1;exact absurd (show false=true from f) zAm
 | .seq t ds,.seq u es,x,h1,h2=>by
  unfold Qa at h1 h2;obtain⟨a,xs,rfl,t1,l1,r1⟩:=h1;obtain⟨b,ys,e,t2,l2,r2⟩:=h2;cases e;unfold AQ;cases t with
  | true=>
   cases u with
   | true=>
    have e:=I.tuple_inj (t1 rfl) (t2 rfl);subst e;rw[reps_same I ds es xs r1 r2];rfl
   | false=>exact (C6 I (l2 rfl) (t1 rfl)).elim
  | false=>
   cases u with
   | true=>exact (C6 I (l1 rfl) (t2 rfl)).elim
   | false=>
    have e:=I.list_inj (l1 rfl) (l2 rfl);subst e;rw[reps_same I ds es xs r1 r2];rfl
theorem reps_same (I:Inv X pins σ H s):∀ (ds es:List D) (xs:List V),Reps X.K H ds xs->Reps X.K H es xs->eqDs ds es=true
 | [],[],_,_,_=>by unfold eqDs; rfl
 | [],e::es,xs,h1,h2=>by
  unfold Reps at h1 h2;subst h1;obtain⟨_,_,e,_⟩:=h2;cases e
 | d::ds,[],xs,h1,h2=>by
  unfold Reps at h1 h2;subst h2;obtain⟨_,_,e,_⟩:=h1;cases e
 | d::ds,e::es,xs,h1,h2=>by
  unfold Reps at h1 h2;obtain⟨y,ys,rfl,h1,r1⟩:=h1;obtain⟨z,zs,e,h2,r2⟩:=h2;cases e;unfold eqDs;rw[Ze I d _ y h1 h2,reps_same I ds es ys r1 r2];rfl
end
theorem Y7 {A:Around} {v:V} {u:Value} {a:Addr} {its:Array Value} (f:Eo v=true) (r:RelV v u) (p:s.heap.IsList a its) (hu:A.units<cLine):SeqAt.EqAt A s u (.ref a) false:=by
 cases v with
 | non=>cases r; exact .none_list p hu
 | bl b=>cases r; exact .bool_list b p hu
 | int i=>obtain⟨t,rfl⟩:=r; exact .int_list i t p hu
 | str i=>obtain⟨t,rfl⟩:=r; exact .str_list i t p hu
 | _=>exact absurd (show false=true from f) zAm
theorem EL {A:Around} {v:V} {u:Value} {a:Addr} {its:Array Value} (f:Eo v=true) (r:RelV v u) (p:s.heap.IsTuple a its) (hu:A.units<cLine):SeqAt.EqAt A s u (.ref a) false:=by
 cases v with
 | non=>cases r; exact .none_tuple p hu
 | bl b=>cases r; exact .bool_tuple b p hu
 | int i=>obtain⟨t,rfl⟩:=r; exact .int_tuple i t p hu
 | str i=>obtain⟨t,rfl⟩:=r; exact .str_tuple i t p hu
 | _=>exact absurd (show false=true from f) zAm
theorem W3 {A:Around} {v:V} {u:Value} {a:Addr} {its:Array Value} (f:Eo v=true) (r:RelV v u) (p:s.heap.IsList a its) (hu:A.units<cLine):SeqAt.EqAt A s (.ref a) u false:=by
 cases v with
 | non=>cases r; exact .list_none p hu
 | bl b=>cases r; exact .list_bool b p hu
 | int i=>obtain⟨t,rfl⟩:=r; exact .list_int i t p hu
 | str i=>obtain⟨t,rfl⟩:=r; exact .list_str i t p hu
 | _=>exact absurd (show false=true from f) zAm
theorem AW {A:Around} {v:V} {u:Value} {a:Addr} {its:Array Value} (f:Eo v=true) (r:RelV v u) (p:s.heap.IsTuple a its) (hu:A.units<cLine):SeqAt.EqAt A s (.ref a) u false:=by
 cases v with
 | non=>cases r; exact .tuple_none p hu
 | bl b=>cases r; exact .tuple_bool b p hu
 | int i=>obtain⟨t,rfl⟩:=r; exact .tuple_int i t p hu
 | str i=>obtain⟨t,rfl⟩:=r; exact .tuple_str i t p hu
 | _=>exact absurd (show false=true from f) zAm
theorem R8 {A:Around} {its js:List Value} {e:Nat->Bool} (h:∀ j u v,its[j]?=some u->js[j]?=some v->SeqAt.EqAt A s u v (e j)):∀ j (h1:j<its.toArray.size) (h2:j<js.toArray.size),SeqAt.EqAt A s its.toArray[j] js.toArray[j] (e j):=fun j h1 h2=>by
 rw[zAh] at h1 h2;rw[zCd,zCd];exact h j _ _ (zAe h1) (zAe h2)
theorem B3 {A:Around} {a b:Addr} {xs ys:List V} {ds es:List D} (I:Inv X pins σ H s) (hu:A.units<cLine) (h1:SqL X.K H a xs) (h2:SqL X.K H b ys) (r1:Reps X.K H ds xs) (r2:Reps X.K H es ys)
  (h:∀ its js,Vals xs its->Vals ys js->∀ j u v,its[j]?=some u->js[j]?=some v->SeqAt.EqAt A.in1 s u v (LY ds es j)):SeqAt.RcAt A s (.ref a) (.ref b) (eqDs ds es)/\SeqAt.RcNeAt A s (.ref a) (.ref b) (!eqDs ds es):=by
 obtain⟨its,q1,p1,z1⟩:=I.list h1;obtain⟨js,q2,p2,z2⟩:=I.list h2;have l1:=q1.length;have l2:=q2.length;have m1:=r1.len;have m2:=r2.len;by_cases hl:ds.length=es.length
 ·rw[<- Rh hl,show ds.length=its.toArray.size by rw[zAh]; lia]
  have hz:its.toArray.size=js.toArray.size:=by rw[zAh,zAh]; lia
  exact⟨SeqAt.RcAt.lists p1.isList p2.isList hz hu (R8 (h its js q1 q2)),SeqAt.RcNeAt.lists p1.isList p2.isList hz hu (R8 (h its js q1 q2))⟩
 ·rw[Sb hl]
  have hz:(its.toArray.size != js.toArray.size)=true:=by simp only [zAh,bne_iff_ne,ne_eq]; lia
  exact⟨SeqAt.RcAt.lists_lengths p1.isList p2.isList hz hu,SeqAt.RcNeAt.lists_lengths p1.isList p2.isList hz hu⟩
theorem R3 {A:Around} {a b:Addr} {xs ys:List V} {ds es:List D} (I:Inv X pins σ H s) (hu:A.units<cLine) (h1:SqT X.K H a xs) (h2:SqT X.K H b ys) (r1:Reps X.K H ds xs) (r2:Reps X.K H es ys)
  (h:∀ its js,Vals xs its->Vals ys js->∀ j u v,its[j]?=some u->js[j]?=some v->SeqAt.EqAt A.in1 s u v (LY ds es j)):SeqAt.RcAt A s (.ref a) (.ref b) (eqDs ds es)/\SeqAt.RcNeAt A s (.ref a) (.ref b) (!eqDs ds es):=by
 obtain⟨its,q1,p1,z1⟩:=I.tuple h1;obtain⟨js,q2,p2,z2⟩:=I.tuple h2;have l1:=q1.length;have l2:=q2.length;have m1:=r1.len;have m2:=r2.len;have e:((zAM (min its.toArray.size js.toArray.size)).all (LY ds es)&&its.toArray.size==js.toArray.size)=eqDs ds es:=by
  rw[zAh,zAh];by_cases hl:ds.length=es.length
  ·rw[<- Rh hl,show min its.length js.length=ds.length by lia,show its.length=js.length by lia]
   simp
  ·rw[Sb hl]
   have:(its.length==js.length)=false:=by simp; lia
   rw[this,zBY]
 rw[<- e];exact⟨SeqAt.RcAt.tuples p1 p2 hu (R8 (h its js q1 q2)),SeqAt.RcNeAt.tuples p1 p2 hu (R8 (h its js q1 q2))⟩
mutual
theorem IZ (I:Inv X pins σ H s):∀ (d e:D) (A:Around) (x y:V) (u v:Value),A.units+EZ d+EZ e<cLine->Qa X.K H d x->Qa X.K H e y->RelV x u->RelV y v->SeqAt.EqAt A s u v (AQ d e)
 | .at a,.at b,A,x,y,u,v,hu,h1,h2,ru,rv=>by
  unfold Qa at h1 h2;obtain⟨rfl,f⟩:=h1;obtain⟨rfl,g⟩:=h2;unfold AQ;exact N9 ru rv f g
 | .at a,.seq t es,A,x,y,u,v,hu,h1,h2,ru,rv=>by
  unfold Qa at h1 h2;obtain⟨rfl,f⟩:=h1;obtain⟨b,ys,rfl,t2,l2,_⟩:=h2;cases rv;unfold AQ;cases t with
  | true=>obtain⟨_,_,p,_⟩:=I.tuple (t2 rfl); exact EL f ru p (by lia)
  | false=>obtain⟨_,_,p,_⟩:=I.list (l2 rfl); exact Y7 f ru p.isList (by lia)
 | .seq t ds,.at b,A,x,y,u,v,hu,h1,h2,ru,rv=>by
  unfold Qa at h1 h2;obtain⟨rfl,f⟩:=h2;obtain⟨a,xs,rfl,t1,l1,_⟩:=h1;cases ru;unfold AQ;cases t with
  | true=>obtain⟨_,_,p,_⟩:=I.tuple (t1 rfl); exact AW f rv p (by lia)
  | false=>obtain⟨_,_,p,_⟩:=I.list (l1 rfl); exact W3 f rv p.isList (by lia)
 | .seq t ds,.seq t' es,A,x,y,u,v,hu,h1,h2,ru,rv=>by
  have k1:=h1;have k2:=h2;unfold Qa at h1 h2;obtain⟨a,xs,rfl,t1,l1,r1⟩:=h1;obtain⟨b,ys,rfl,t2,l2,r2⟩:=h2;cases ru;cases rv;unfold EZ at hu;have hu':A.in1.units+deps ds+deps es<cLine:=by rw[Around.in1_units]; lia
  have hu0:A.units<cLine:=by lia
  by_cases hab:a=b
  ·subst hab
   rw[Ze I _ _ _ k1 k2];exact .same _
  ·unfold AQ
   cases t with
   | true=>
    cases t' with
    | true=>exact .of_refs hab (R3 I hu0 (t1 rfl) (t2 rfl) r1 r2 (reps_at I ds es A.in1 xs ys hu' r1 r2)).1
    | false=>
     obtain⟨_,_,p,_⟩:=I.tuple (t1 rfl);obtain⟨_,_,q,_⟩:=I.list (l2 rfl);exact .tuple_list p q.isList hu0
   | false=>
    cases t' with
    | true=>
     obtain⟨_,_,p,_⟩:=I.list (l1 rfl);obtain⟨_,_,q,_⟩:=I.tuple (t2 rfl);exact .list_tuple p.isList q hu0
    | false=>exact .of_refs hab (B3 I hu0 (l1 rfl) (l2 rfl) r1 r2 (reps_at I ds es A.in1 xs ys hu' r1 r2)).1
theorem reps_at (I:Inv X pins σ H s):∀ (ds es:List D) (A:Around) (xs ys:List V),A.units+deps ds+deps es<cLine->Reps X.K H ds xs->Reps X.K H es ys ->
  ∀ its js,Vals xs its->Vals ys js->∀ j u v,its[j]?=some u->js[j]?=some v->SeqAt.EqAt A s u v (LY ds es j)
 | [],es,A,xs,ys,hu,h1,h2,its,js,q1,q2,j,u,v,e1,e2=>by
  unfold Reps at h1;subst h1;cases q1;simp at e1
 | d::ds,[],A,xs,ys,hu,h1,h2,its,js,q1,q2,j,u,v,e1,e2=>by
  unfold Reps at h2;subst h2;cases q2;simp at e2
 | d::ds,e::es,A,xs,ys,hu,h1,h2,its,js,q1,q2,j,u,v,e1,e2=>by
  unfold Reps at h1 h2;obtain⟨y,ys',rfl,k1,r1⟩:=h1;obtain⟨z,zs',rfl,k2,r2⟩:=h2;unfold deps at hu;cases q1 with
  | cons ru t1=>
   cases q2 with
   | cons rv t2=>
    cases j with
    | zero=>
     simp only [List.getElem?_cons_zero,Option.some.injEq] at e1 e2;subst e1 e2;exact IZ I d e A y z _ _ (by lia) k1 k2 ru rv
    | succ j=>
     simp only [List.getElem?_cons_succ] at e1 e2;exact reps_at I ds es A ys' zs' (by lia) r1 r2 _ _ t1 t2 j u v e1 e2
end
end
section
variable {X:Cx}
def JN (K:zAa) (neg:Bool):R2:=fun x y H Q=>∃ t ds es,Qa K H (.seq t ds) x/\Qa K H (.seq t es) y/\deps ds+deps es<=40/\Q (.bl (if neg then !eqDs ds es else eqDs ds es)) H
theorem LG {X:Cx} (neg:Bool) (hu:X.A.units+64<cLine):Jm X (compareOp (if neg then .NotEq else .Eq)) (JN X.K neg):=by
 intro pins s σ H x y v u Q I rx ry h;obtain⟨t,ds,es,h1,h2,hd,q⟩:=h;unfold Qa at h1 h2;obtain⟨a,xs,rfl,t1,l1,r1⟩:=h1;obtain⟨b,ys,rfl,t2,l2,r2⟩:=h2;cases rx;cases ry;have hu':X.A.in1.units+deps ds+deps es<cLine:=by rw[Around.in1_units]; lia
 have hu0:X.A.units<cLine:=by lia
 have z:SeqAt.RcAt X.A s (.ref a) (.ref b) (eqDs ds es)/\SeqAt.RcNeAt X.A s (.ref a) (.ref b) (!eqDs ds es):=by
  cases t with
  | true=>exact R3 I hu0 (t1 rfl) (t2 rfl) r1 r2 (reps_at I ds es X.A.in1 xs ys hu' r1 r2)
  | false=>exact B3 I hu0 (l1 rfl) (l2 rfl) r1 r2 (reps_at I ds es X.A.in1 xs ys hu' r1 r2)
 cases neg with
 | true=>exact z.2 X.prog X.w _ _ ⟨.bl (!eqDs ds es),H,I,rfl,q⟩
 | false=>exact z.1 X.prog X.w _ _ ⟨.bl (eqDs ds es),H,I,rfl,q⟩
theorem CH {K:zAa} (hu:X.A.units+64<cLine) (hK:X.K=K:=by rfl):Jm X (compareOp .NotEq) (JN K true):=hK▸LG true hu
theorem P8 {k:Nat} {A:Around} (hr:Room k A):A.units+64<cLine:=hr.units
theorem Cs {K:zAa} (h:X.K=K):KO X (MO K):=h▸Bq
end
structure EQ (K:zAa) (B:Addr) (m:Str) (f:Addr):Prop where
 ga:zCv K (.ref B) "__getattribute__" = some (some (.builtin "type.__getattribute__"))
 rd:PySem.W.readsIn K B (.type "type")=true
 fc:PySem.W.findCls K (.ref B) (.type "type") m=some (.val (.ref f))
 kp:zAT K (.ref f)=true
section
variable {X:Cx} {k:Nat} {m x:Str} {ps:List Str} {sp:Sp} {e:Expr} {es:List Expr} {p apos pos:Pos} {t:TA} {W:St->XK}
theorem Zl {A:Around} {E:Value->Shared->Prop} {pins:List (Addr×Obj)} {σ:St} {H:Hp} {s:Shared} {B g:Addr} {pl:Sem Bool} {Q:Value×List Value->Shared->Prop} (I:Inv X pins σ H s) (Z:EQ X.K B m g) (h:Q (.ref g,[]) { s with toks:=s.toks+1 }) :
  wpAny (model X.prog X.w) A (getMethod (.ref B) m pl) Q E s:=PySem.W.method_cls I.kIn Z.ga (PySem.W.cls_value I.kIn Z.rd Z.fc rfl h)
structure CK (P:Program) (w:World) (K:zAa) (mg:Str->Option Value) (base:Heap) (k:Nat) (x m:Str) (ps:List Str) (sp:Sp):Prop where
 ex:∃ B f fd,FnOk P w K mg base Da k f fd ps sp/\Binds K fd ps []/\EQ K B m f/\mg x=some (.ref B)
theorem Sa {pl:Sem Bool} (C:CK X.prog X.w X.K X.mg X.base k x m ps sp) (hr:Room k X.A) (hg:Gl X x) (ha:PA X (e::es) t) (hdb:(x==("__debug__" : Str))=false:=by decide)
  (hst:starEach (e::es) X.env=(false,eval e X.env)::starEach es X.env:=by rfl) (hpl:(backTo pos (starEach es X.env)).any (·.1)=false:=by rfl)
  (ht:eval (.Call (.Attribute (.Name x p) m apos) (e::es) [] pos) X.env=(do
   let ov <- eval (.Name x p) X.env
   standAt apos.atName
   let (f,first) <- holding [ov] (getMethod ov m pl)
   callWith pos f first (backTo pos (starEach (e::es) X.env)) (backToKw pos (keywordEach [] X.env))):=by rfl) :
  PE X (.Call (.Attribute (.Name x p) m apos) (e::es) [] pos) (P9 sp [] E0 t):=by
 intro pins s σ H Q I h;obtain⟨B,f,fd,F,b,Z,hm⟩:=C.ex;refine zBV (pl:=pl) (Hb I hg hm ?_ hdb) ht;refine Zl I Z ?_;have I':=I.tok (s.toks+1);refine zBB (first:=[]) (h₀ := X.base) I.ok.mod.kin Z.kp (Cw (ha pos pins _ σ H _ I' h) fun us s2 ⟨vs,H2,I2,r,q2⟩=>⟨I2.kIn,?_⟩) hst hpl;exact Yi (us:=us) (vs:=vs) F hr b .nil Vh I2 r q2
def KA (Fam:Addr->Prop) (m:Str) (sp:Addr->Sp) (ta:TE) (t:TA):TE:=fun σ H Q=>ta σ H fun x H1=>∃ a C dx fs,x = .ref a/\H1 a=some (.ins C dx fs)/\Fam C/\fs.lookup m=none/\t σ H1 fun vs H2=>sp C (.ref a::vs) H2 Q E0
structure Ph (P:Program) (w:World) (K:zAa) (mg:Str->Option Value) (base:Heap) (k:Nat) (Fam:Addr->Prop) (m:Str) (ps:List Str) (sp:Addr->Sp):Prop where
 ex:∀ C,Fam C->Ix P w K mg base k C m ps (sp C)
theorem Gi {Fam:Addr->Prop} {spC:Addr->Sp} {o:Expr} {ta:TE} {pl:Sem Bool} (M:Ph X.prog X.w X.K X.mg X.base k Fam m ps spC) (hr:Room k X.A) (he:PE X o ta) (ha:PA X (e::es) t)
  (hst:starEach (e::es) X.env=(false,eval e X.env)::starEach es X.env:=by rfl) (hpl:(backTo pos (starEach es X.env)).any (·.1)=false:=by rfl)
  (ht:eval (.Call (.Attribute o m apos) (e::es) [] pos) X.env=(do
   let ov <- eval o X.env
   standAt apos.atName
   let (f,first) <- holding [ov] (getMethod ov m pl)
   callWith pos f first (backTo pos (starEach (e::es) X.env)) (backToKw pos (keywordEach [] X.env))):=by rfl) :
  PE X (.Call (.Attribute o m apos) (e::es) [] pos) (KA Fam m spC ta t):=by
 intro pins s σ H Q I h;refine zBV (pl:=pl) (Cw (he pins s σ H _ I h) fun u s1 ⟨x,H1,I1,rx,a,C,dx,fs,ex,ea,hF,l,q⟩=>?_) ht;subst ex;obtain rfl:u=Value.ref a:=rx;obtain⟨f,fd,F,b,hm⟩:=(M.ex C hF).ex;refine Lr I1 ea (M.ex C hF).cl hm l ?_;refine zBB (first:=[.ref a]) (h₀ := X.base) I.ok.mod.kin hm.kp (Cw (ha pos pins s1 σ H1 _ I1 q) fun us s2 ⟨vs,H2,I2,r,q2⟩=>⟨I2.kIn,?_⟩) hst hpl;exact Yi (us:=.ref a::us) (vs:=.ref a::vs) F hr b .nil Vh I2 (.cons rfl r) (by rw[zAN]; exact q2)
end
def MR (K:zAa) (mg:Str->Option Value) (x:Str) (xs:List V):Prop:=∃ a,mg x=some (.ref a)/\∀ H,SqT K H a xs
theorem FE {X:Cx} {x:Str} {xs:List V} {pos:Pos} (h:MR X.K X.mg x xs) (hg:Gl X x) (hd:(x==("__debug__" : Str))=false:=by decide):PE X (.Name x pos) (fun _ H Q=>∀ a,SqT X.K H a xs->Q (.ref a) H):=by
 obtain⟨a,e,hs⟩:=h;exact fun _ _ _ H _ I q=>Hb I hg e ⟨.ref a,H,I,rfl,q a (hs H)⟩ hd
section
variable {X:Cx}
end
structure NF (K:zAa) (mg:Str->Option Value) (x:Str) (C:Addr):Prop where
 makes:zCm K C=true
 init:zAc K (.ref C) "__init__" = some (some (.builtin "object.__init__"))
 kp:zAT K (.ref C)=true
 at_:mg x=some (.ref C)
def OI (C:Addr):TE:=fun _ H Q=>∀ y dx,H y=none->H dx=none->dx≠y->Q (.ref y) (upd (upd H dx (.own y)) y (.ins C dx []))
theorem FS {X:Cx} {x:Str} {C:Addr} {p pos:Pos} (M:NF X.K X.mg x C) (hg:Gl X x) (hdb:(x==("__debug__" : Str))=false:=by decide):PE X (.Call (.Name x p) [] [] pos) (OI C):=by
 intro pins s σ H Q I h;refine wpAny_Call_Name_kw (Hb I hg M.at_ ?_ hdb);refine PySem.W.callWith_K0 I.kIn M.kp (wpAny_call (AI I.kIn M.makes M.init (fun self=>PySem.W.Looks.of_pure (PySem.W.oi_bind self)) ?_));have hq:=h (s.heap.objs.size+1) s.heap.objs.size (I.hok.fresh (zBl _)) (I.hok.fresh (zAl _)) (zAw (zBx _));have I2:=Inv.made (C:=C) I;have Y:=PySem.W.makes_of (M:=model X.prog X.w) I.kIn M.makes;have ob:((s.heap.push zAS).push (zBa C s.heap.objs.size)).get? (s.heap.objs.size+1)=some (zBa C s.heap.objs.size):=by
  have e:(s.heap.push zAS).objs.size=s.heap.objs.size+1:=by rw[zBn]
  rw[<- e];exact zAu _ rfl
 have t1:PySem.W.Looks (model X.prog X.w) ((s.heap.push zAS).push (zBa C s.heap.objs.size)) (typeOf (.ref (s.heap.objs.size+1))) (.ref C):=(PySem.W.Looks.ld ob).andThen .now;have t2:PySem.W.Looks (model X.prog X.w) ((s.heap.push zAS).push (zBa C s.heap.objs.size)) (isInstance (.ref (s.heap.objs.size+1)) (.type "object")) true:=t1.andThen (Y.top.keeps fun b o e=>zAd _ (zAd _ e));obtain⟨hh,g,d,t,os⟩:=s;refine codeAny_call_builtin PySem.W.oi_plain PySem.W.entry_oi (@PySem.W.check_slot (model X.prog X.w) _ _ _ "object.__init__" "object" "__init__" (.ref (hh.objs.size+1)) [] [] _ PySem.W.oi_kind PySem.W.oi_split t2 (PySem.W.oi_args (.ref (hh.objs.size+1))) ?_);rw[PySem.W.oi_run];exact zCD (And.intro rfl ⟨V.ref (hh.objs.size+1),_,I2,rfl,hq⟩)
end L2
namespace CRS
open PySem PySem.W PyProof.Rows
def run {α:Type} (lt:Nat->Nat->Bool) (V:Nat->Prop):KasT α->(α->Prop)->Prop
 | .ret a,Q=>Q a
 | .ask i j k,Q=>V i/\V j/\run lt V (k (lt i j)) Q
section
variable {lt:Nat->Nat->Bool} {V:Nat->Prop}
theorem Hr {α β:Type} {f:α->KasT β} {Q:β->Prop}:∀ t:KasT α,run lt V t (fun a=>run lt V (f a) Q)->run lt V (t.bind f) Q
 | .ret a,h=>h
 | .ask i j k,⟨h1,h2,h3⟩=>⟨h1,h2,Hr (k (lt i j)) h3⟩
theorem run_wp {α:Type} {cmp:Nat->Nat->(Bool->Shared->Prop)->Shared->Prop} {s:Shared} (hc:∀ i j (C:Bool->Shared->Prop),V i->V j->C (lt i j) s->cmp i j C s) {Q:α->Prop} {G:α->Shared->Prop} (hq:∀ a,Q a->G a s) :
  ∀ t:KasT α,run lt V t Q->t.kasWp cmp G s
 | .ret a,h=>hq a h
 | .ask i j k,⟨h1,h2,h3⟩=>hc i j _ h1 h2 (run_wp hc hq (k (lt i j)) h3)
theorem Et {α:Type} {c:Prop} {inst:Decidable c} {t u:KasT α} {Q:α->Prop} (h1:c->run lt V t Q) (h2:¬ c->run lt V u Q):run lt V (@ite _ c inst t u) Q:=by
 by_cases h:c
 ·rw[if_pos h]; exact h1 h
 ·rw[if_neg h]; exact h2 h
end
section
variable {O:KeyOrd} {key:Nat->O.α} {N:Nat}
abbrev ltK (key:Nat->O.α):Nat->Nat->Bool:=fun i j=>O.blt (key i) (key j)
def kk (key:Nat->O.α) (p:Array Nat) (i:Nat):O.α:=key (p.getD i 0)
def Pm (N:Nat) (p:Array Nat):Prop:=p.Perm (zAM N).toArray
def Up (key:Nat->O.α) (p:Array Nat) (m:Nat):Prop:=∀ i j,i<=j->j<m->O.kle (kk key p i) (kk key p j)
def Dn (key:Nat->O.α) (p:Array Nat) (m:Nat):Prop:=∀ i j,i<=j->j<m->O.kle (kk key p j) (kk key p i)
theorem Pm.size {p:Array Nat} (h:Pm N p):p.size=N:=by rw[h.size_eq]; simp
set_option tactic.hygienic true in
theorem Pm.lt {p:Array Nat} (h:Pm N p) (hN:0<N) (i:Nat):p.getD i 0<N:=by
 unfold zCe
 split
 ·rename_i hi
  have m:p[i]∈p.toList:=by simp
  have m2:=(zCi.mp h).mem_iff.mp m
  simpa using m2
 ·exact hN
theorem Pm.rev {p:Array Nat} (h:Pm N p) (i j:Nat):Pm N (kas_rev p i j):=(mirror_perm p i j _).trans h
theorem Pm.bub {p:Array Nat} (h:Pm N p) (i j:Nat):Pm N (bubble p i j):=(bubble_perm p i j).trans h
theorem Mx {p q:Array Nat} {i j:Nat} (h:p[i]?=q[j]?):p.getD i 0=q.getD j 0:=by
 have e:∀ (r:Array Nat) (k:Nat),r.getD k 0=(r[k]?).getD 0:=fun r k=>by
  by_cases hk:k<r.size <;> simp [zCe,hk]
 rw[e,e,h]
theorem O8 {p:Array Nat} {i j:Nat} (hj:j<=p.size) (k:Nat):kk key (kas_rev p i j) k=if i<=k/\k<j then kk key p (i+j-1-k) else kk key p k:=by
 have e:=getElem?_mirror_all (xs:=p) (i:=i) hj k;unfold kk kas_rev;by_cases c:i<=k/\k<j
 ·rw[if_pos c] at e ⊢; rw[Mx e]
 ·rw[if_neg c] at e ⊢; rw[Mx e]
theorem JZ {p:Array Nat} {b d:Nat} (hs:b<p.size) (hd:d<=b) (k:Nat):kk key (bubble p b d) k=if k=b-d then kk key p b else if b-d<k/\k<=b then kk key p (k-1) else kk key p k:=by
 have e:=getElem?_bubble hs d hd k;unfold kk;by_cases c:k=b-d
 ·rw[if_pos c] at e ⊢; rw[Mx e]
 ·rw[if_neg c] at e ⊢
  by_cases c2:b-d<k/\k<=b
  ·rw[if_pos c2] at e ⊢; rw[Mx e]
  ·rw[if_neg c2] at e ⊢; rw[Mx e]
theorem Xr {p:Array Nat} {i j:Nat} (hj:j<=p.size) (h:∀ k,i<=k->k<j->kk key p k=kk key p (j-1)) (k:Nat):kk key (kas_rev p i j) k=kk key p k:=by
 rw[O8 hj];by_cases c:i<=k/\k<j
 ·rw[if_pos c,h _ (by lia) (by lia),h k c.1 c.2]
 ·rw[if_neg c]
theorem Up.more {p:Array Nat} {n:Nat} (h:Up key p n) (e:O.kle (kk key p (n-1)) (kk key p n)):Up key p (n+1):=fun i j hij hj=>by
 rcases Nat.lt_or_ge j n with z | z
 ·exact h i j hij z
 ·obtain rfl:j=n:=by lia
  rcases Nat.eq_or_lt_of_le hij with y | y
  ·rw[y]; exact KeyOrd.kle_refl _
  ·exact KeyOrd.kle_trans (h i (j-1) (by lia) (by lia)) e
theorem Dn.more {p:Array Nat} {n:Nat} (h:Dn key p n) (e:O.kle (kk key p n) (kk key p (n-1))):Dn key p (n+1):=fun i j hij hj=>by
 rcases Nat.lt_or_ge j n with z | z
 ·exact h i j hij z
 ·obtain rfl:j=n:=by lia
  rcases Nat.eq_or_lt_of_le hij with y | y
  ·rw[y]; exact KeyOrd.kle_refl _
  ·exact KeyOrd.kle_trans e (h i (j-1) (by lia) (by lia))
theorem Dn.of {p q:Array Nat} {n:Nat} (h:Dn key p n) (e:∀ k,kk key q k=kk key p k):Dn key q n:=fun i j a b=>by rw[e,e]; exact h i j a b
variable {β:Type}
theorem Wl {p:Array Nat} (hp:Pm N p) (hN:0<N) {Q:Nat->Prop}:∀ (f n:Nat),Up key p n->(∀ m,n<=m->m<=n+f->Up key p m->(m=n+f\/O.klt (kk key p m) (kk key p (m-1)))->Q m)->run (ltK key) (fun i=>i<N) (kas_asc p f n) Q
 | 0,n,h,q=>q n (zAl _) (zAl _) h (.inl rfl)
 | f+1,n,h,q=>by
  refine⟨hp.lt hN _,hp.lt hN _,?_⟩;refine Et (fun c=>?_) (fun c=>?_)
  ·exact q n (zAl _) (by lia) h (.inr c)
  ·exact Wl hp hN f (n+1) (h.more (KeyOrd.kle_of_not_klt c)) fun m a b u v=>q m (by lia) (by lia) u (v.imp (fun z=>by lia) id)
def Tl (key:Nat->O.α) (p:Array Nat) (n q:Nat):Prop:=q+1<=n/\∀ i,n-(q+1)<=i->i<n->kk key p i=kk key p (n-1)
theorem Tl.one {p:Array Nat} {n:Nat}:Tl key p (n+1) 0:=⟨by lia,fun i a b=>by rw[show i=n+1-1 by lia]⟩
theorem Mg (hN:0<N) {Q:Array Nat×Nat×Nat->Prop}:∀ (f:Nat) (p:Array Nat) (n q:Nat),Pm N p->n+f<=N->Dn key p n->Tl key p n q->(∀ p' m q',Pm N p'->n<=m->m<=n+f->Dn key p' m->Tl key p' m q'->Q (p',m,q'))->run (ltK key) (fun i=>i<N) (kas_desc f p n q) Q
 | 0,p,n,q,hp,_,d,t,k=>k p n q hp (zAl _) (zAl _) d t
 | f+1,p,n,q,hp,hf,d,t,k=>by
  have sz:=hp.size;refine⟨hp.lt hN _,hp.lt hN _,?_⟩;refine Et (fun c=>?_) (fun c=>?_)
  ·have d1:=d.more (KeyOrd.kle_of_klt c)
   refine Et (fun _=>?_) (fun _=>?_)
   ·have like:∀ k,kk key (kas_rev p (n-(q+1)) n) k=kk key p k:=Xr (by lia) t.2
    exact Mg hN f _ (n+1) 0 (hp.rev _ _) (by lia) (d1.of like) .one fun p' m q' a b e=>k p' m q' a (by lia) (by lia)
   ·exact Mg hN f _ (n+1) 0 hp (by lia) d1 .one fun p' m q' a b e=>k p' m q' a (by lia) (by lia)
  ·refine⟨hp.lt hN _,hp.lt hN _,?_⟩
   refine Et (fun c2=>?_) (fun c2=>?_)
   ·exact k p n q hp (zAl _) (by lia) d t
   ·have e:kk key p n=kk key p (n-1):=KeyOrd.kle_antisymm (KeyOrd.kle_of_not_klt c2) (KeyOrd.kle_of_not_klt c)
    refine Mg hN f p (n+1) (q+1) hp (by lia) (d.more (by rw[e]; exact KeyOrd.kle_refl _)) ⟨by have:=t.1; lia,fun i a b=>?_⟩ fun p' m q' a b e=>k p' m q' a (by lia) (by lia);rw[show n+1-1=n by lia];rcases Nat.lt_or_ge i n with z | z
    ·rw[e]; exact t.2 i (by lia) z
    ·rw[show i=n by lia]
theorem Zb {p:Array Nat} {n m:Nat} (hN:0<N) (hp:Pm N p) (hm:m<=N) (hn:n<=m) (d:Dn key p n) {Q:Nat×Array Nat->Prop} (q:∀ r p',Pm N p'->n<=r->r<=m->Up key p' r->Q (r,p')):run (ltK key) (fun i=>i<N) (kas_tail3 n m p) Q:=by
 have sz:=hp.size;refine Hr _ (Wl (hp.rev 0 n) hN (m-n) n (fun i j a b=>?_) fun r a b u _=>q r _ (hp.rev 0 n) a (by lia) u);rw[O8 (by lia),O8 (by lia),if_pos ⟨by lia,by lia⟩,if_pos ⟨by lia,by lia⟩];exact d _ _ (by lia) (by lia)
theorem Zh {p:Array Nat} {n m:Nat} (hN:0<N) (hp:Pm N p) (hm:m<=N) (hn:n+1<=m) (d:Dn key p (n+1)) {Q:Nat×Array Nat->Prop} (q:∀ r p',Pm N p'->n<=r->r<=m->Up key p' r->Q (r,p')):run (ltK key) (fun i=>i<N) (kas_descPart n m p) Q:=by
 refine Hr _ (Mg hN (m-(n+1)) p (n+1) 0 hp (by lia) d .one fun p' r c hp' a b d' t=>?_);have sz:=hp'.size;refine Et (fun _=>?_) (fun _=>?_)
 ·have like:∀ k,kk key (kas_rev p' (r-(c+1)) r) k=kk key p' k:=Xr (by lia) t.2
  exact Zb hN (hp'.rev _ _) hm (by lia) (d'.of like) fun x y z u v=>q x y z (by lia) v
 ·exact Zb hN hp' hm (by lia) d' fun x y z u v=>q x y z (by lia) v
theorem AE {p:Array Nat} {m:Nat} (hN:0<N) (hp:Pm N p) (hm:m<=N) (h1:1<=m) {Q:Nat×Array Nat->Prop} (q:∀ r p',Pm N p'->1<=r->r<=m->Up key p' r->Q (r,p')):run (ltK key) (fun i=>i<N) (kas_count m p) Q:=by
 have sz:=hp.size;refine Hr _ (Wl hp hN (m-1) 1 (fun i j a b=>?_) fun n a b u v=>?_)
 ·rw[show i=j by lia]; exact KeyOrd.kle_refl _
 refine Et (fun c=>?_) (fun c=>?_)
 ·exact q n p hp a (by lia) u
 have c':n≠m:=fun e=>c (by rw[e]; exact beq_self_eq_true _);have fall:O.klt (kk key p n) (kk key p (n-1)):=v.resolve_left (by lia);refine Et (fun g=>?_) (fun g=>?_)
 ·refine⟨hp.lt hN _,hp.lt hN _,?_⟩
  refine Et (fun r=>?_) (fun r=>?_)
  ·exact q n p hp a (by lia) u
  have alike:∀ k,0<=k->k<n->kk key p k=kk key p (n-1):=fun k _ hk=>
   KeyOrd.kle_antisymm (u k (n-1) (by lia) (by lia)) (KeyOrd.kle_trans (KeyOrd.kle_of_not_klt r) (u 0 k (by lia) hk))
  have like:∀ k,kk key (kas_rev p 0 n) k=kk key p k:=Xr (by lia) alike;refine Zh hN (hp.rev 0 n) hm (by lia) (Dn.of (p:=p) (Dn.more (fun i j x y=>?_) (KeyOrd.kle_of_klt fall)) like) fun x y z w=>q x y z (by lia);rw[alike i (by lia) (by lia),alike j (by lia) y];exact KeyOrd.kle_refl _
 ·refine Zh hN hp hm (by lia) (Dn.more (fun i j x y=>?_) (KeyOrd.kle_of_klt fall)) fun x y z w=>q x y z (by lia)
  rw[show i=j by lia];exact KeyOrd.kle_refl _
theorem Of {p:Array Nat} {k:Nat} (hN:0<N) (hp:Pm N p) (u:Up key p k) {Q:Nat->Prop} (q:∀ l,l<=k->(∀ i,i<l->O.kle (kk key p i) (kk key p k))->(∀ i,l<=i->i<k->O.klt (kk key p k) (kk key p i))->Q l) :
  ∀ (f l r:Nat),l<=r->r<=k->r-l<=f->(∀ i,i<l->O.kle (kk key p i) (kk key p k))->(∀ i,r<=i->i<k->O.klt (kk key p k) (kk key p i))->run (ltK key) (fun i=>i<N) (kas_place p k f l r) Q
 | 0,l,r,a,b,c,x,y=>by
  obtain rfl:l=r:=by lia
  exact q l b x y
 | f+1,l,r,a,b,c,x,y=>by
  refine Et (fun g=>?_) (fun g=>?_)
  ·obtain rfl:l=r:=by lia
   exact q l b x y
  refine⟨hp.lt hN _,hp.lt hN _,?_⟩;refine Et (fun z=>?_) (fun z=>?_)
  ·exact Of hN hp u q f l ((l+r)/2) (by lia) (by lia) (by lia) x fun i v w=>KeyOrd.klt_of_klt_of_kle z (u _ i v w)
  ·exact Of hN hp u q f ((l+r)/2+1) r (by lia) b (by lia) (fun i v=>KeyOrd.kle_trans (u i ((l+r)/2) (by lia) (by lia)) (KeyOrd.kle_of_not_klt z)) y
theorem T0 (hN:0<N) {Q:Array Nat->Prop}:∀ (f:Nat) (p:Array Nat) (k:Nat),Pm N p->k+f<=N->Up key p k->(∀ p',Pm N p'->Up key p' (k+f)->Q p')->run (ltK key) (fun i=>i<N) (kas_bin f p k) Q
 | 0,p,k,hp,_,u,q=>q p hp u
 | f+1,p,k,hp,hk,u,q=>by
  have sz:=hp.size;refine Hr _ (Of hN hp u (fun l a lo hi=>?_) k 0 k (by lia) (by lia) (by lia) (fun i z=>by lia) fun i z w=>by lia);refine T0 hN f _ (k+1) (hp.bub _ _) (by lia) (fun i j x y=>?_) fun p' a b=>q p' a (by rw[show k+(f+1)=k+1+f by lia]; exact b);have bb:∀ i,kk key (bubble p k (k-l)) i=if i=l then kk key p k else if l<i/\i<=k then kk key p (i-1) else kk key p i:=fun i=>by
   rw[JZ (by lia) (by lia),show k-(k-l)=l by lia]
  rw[bb,bb];rcases zBD i l with c | c | c
  ·rw[if_neg (by lia),if_neg (by lia)]
   rcases zBD j l with e | e | e
   ·rw[if_neg (by lia),if_neg (by lia)]; exact u i j x (by lia)
   ·rw[if_pos e]; exact lo i c
   ·rw[if_neg (by lia),if_pos (by lia)]; exact u i (j-1) (by lia) (by lia)
  ·rw[if_pos c]
   rcases Nat.eq_or_lt_of_le x with e | e
   ·rw[if_pos (by lia)]; exact KeyOrd.kle_refl _
   ·rw[if_neg (by lia),if_pos (by lia)]; exact KeyOrd.kle_of_klt (hi (j-1) (by lia) (by lia))
  ·rw[if_neg (by lia),if_pos (by lia),if_neg (by lia),if_pos (by lia)]
   exact u (i-1) (j-1) (by lia) (by lia)
theorem run_sort (hN:0<N) {Q:Array Nat->Prop} (q:∀ p,Pm N p->Up key p N->Q p):run (ltK key) (fun i=>i<N) (kas_sort N) Q:=by
 refine Hr _ (AE hN (show Pm N _ from Array.Perm.refl _) (zAl _) hN fun r p hp a b u=>?_);refine Et (fun c=>?_) (fun c=>?_)
 ·have c':r<N:=c
  show run _ _ (kas_bin (N-max r 1) p (max r 1)) Q;have e:max r 1=r:=by lia
  rw[e];exact T0 hN _ p r hp (by lia) u fun p' x y=>q p' x (by rw[show r+(N-r)=N by lia] at y; exact y)
 ·have c':¬ r<N:=c
  obtain rfl:r=N:=by lia
  exact q p hp u
end
end CRS
namespace L2
open PySem PySem.Spec PyProof.Rows PySem.W
theorem Lo:∀ a:List Int,HT.lexLt a a=false
 | []=>rfl
 | x::xs=>by unfold HT.lexLt; rw[if_pos rfl]; exact Lo xs
theorem Uu:∀ a b c:List Int,HT.lexLt a b=true->HT.lexLt b c=true->HT.lexLt a c=true
 | [],[],_,h,_=>nomatch h
 | [],_::_,[],_,h=>nomatch h
 | [],_::_,_::_,_,_=>rfl
 | _::_,[],_,h,_=>nomatch h
 | _::_,_::_,[],_,h=>nomatch h
 | x::xs,y::ys,z::zs,h1,h2=>by
  unfold HT.lexLt at h1 h2 ⊢;by_cases e1:x=y
  ·by_cases e2:y=z
   ·rw[if_pos e1] at h1; rw[if_pos e2] at h2; rw[if_pos (e1.trans e2)]; exact Uu xs ys zs h1 h2
   ·rw[if_neg e2] at h2; rw[if_neg (by rw[e1]; exact e2),e1]; exact h2
  ·rw[if_neg e1] at h1
   have l1:=of_decide_eq_true h1;by_cases e2:y=z
   ·rw[if_neg (by rw[<- e2]; exact e1),<- e2]; exact h1
   ·rw[if_neg e2] at h2
    have l2:=of_decide_eq_true h2;rw[if_neg (by omega)];exact decide_eq_true (by omega)
theorem V8:∀ a b c:List Int,HT.lexLt a c=true->HT.lexLt a b=true\/HT.lexLt b c=true
 | [],[],_,h=>.inr h
 | [],_::_,_,_=>.inl rfl
 | _::_,_,[],h=>nomatch h
 | _::_,[],_::_,_=>.inr rfl
 | x::xs,y::ys,z::zs,h=>by
  unfold HT.lexLt at h ⊢;by_cases e1:x=y
  ·by_cases e2:y=z
   ·rw[if_pos (e1.trans e2)] at h; rw[if_pos e1,if_pos e2]; exact V8 xs ys zs h
   ·rw[if_neg (by rw[e1]; exact e2)] at h; rw[if_neg e2]; exact .inr (by rw[<- e1]; exact h)
  ·rw[if_neg e1]
   by_cases e2:y=z
   ·rw[if_neg (by rw[<- e2]; exact e1)] at h; exact .inl (by rw[e2]; exact h)
   ·rw[if_neg e2]
    by_cases l:x<y
    ·exact .inl (decide_eq_true l)
    ·right
     refine decide_eq_true ?_;by_cases e3:x=z
     ·omega
     ·rw[if_neg e3] at h
      have:=of_decide_eq_true h;omega
theorem Vm:∀ a b:List Int,HT.lexLt a b=false->HT.lexLt b a=false->a=b
 | [],[],_,_=>rfl
 | [],_::_,h,_=>nomatch h
 | _::_,[],_,h=>nomatch h
 | x::xs,y::ys,h1,h2=>by
  unfold HT.lexLt at h1 h2;by_cases e1:x=y
  ·rw[if_pos e1] at h1; rw[if_pos e1.symm] at h2; rw[e1,Vm xs ys h1 h2]
  ·rw[if_neg e1] at h1; rw[if_neg (Ne.symm e1)] at h2
   have l1:=of_decide_eq_false h1;have l2:=of_decide_eq_false h2;omega
def LexO:KeyOrd:=⟨List Int,HT.lexLt,Lo,Uu,V8,Vm⟩
section
variable {prog:Program} {w:World} {A:Around} {E:Value->Shared->Prop} {s:Shared}
def FO (prog:Program) (w:World) (A:Around) (vs:List Value) (O:KeyOrd) (key:Nat->O.α) (s:Shared):Prop:=
 ∃ κ:SortKind,(∀ (Q:SortKind->Shared->Prop) (E:Value->Shared->Prop),Q κ s->wpAny (model prog w) A (keyKind' vs.toArray) Q E s) /\
  ∀ i j,i<vs.length->j<vs.length->∀ C:Bool->Shared->Prop,C (O.blt (key i) (key j)) s->wpAny (model prog w) A (keyLt' κ (vs.getD i Value.none) (vs.getD j Value.none)) C (fun _ _=>False) s
def Nv (vs:List Value) (p:Array Nat):List Value:=p.toList.map fun i=>vs.getD i Value.none
theorem A5 {n:Nat} {vs:List Value} {p:Array Nat} (h:CRS.Pm n p):(Nv vs p).length=n:=by
 unfold Nv;rw[zAb,zAC,h.size]
theorem GV:∀ {vs:List Value},vs.length<2->((vs.toArray.zip vs.toArray).map (·.2))=(Nv vs (zAM vs.length).toArray).toArray
 | [],_=>by
  apply Array.toList_inj.mp;simp [Nv]
 | [v],_=>by
  apply Array.toList_inj.mp;simp [Nv]
 | _::_::_,h=>absurd h (by simp)
theorem GT {O:KeyOrd} {key:Nat->O.α} {a:Addr} {vs:List Value} {n:Nat} {P:PySem.Fin->Shared->Prop} (ho:s.heap.get? a=some (seqObj "list" vs.toArray n)) (h64:vs.length<64)
  (ask:∀ h':Heap,(∀ b o,b≠a->s.heap.get? b=some o->h'.get? b=some o)->2<=vs.length->FO prog w A vs O key { s with heap:=h' })
  (h:∀ p,CRS.Pm vs.length p->CRS.Up key p vs.length->P (.done (.ret .none)) { s with heap:=sortedHeap s.heap a vs (Nv vs p).toArray }) :
  wpAny (model prog w) A (Builtin.«list.sort» ⟨[.ref a],[]⟩) P E s:=by
 have lt:a<s.heap.objs.size:=zAp ho;have line:∀ k:Nat,k<64->k<=sizeLine:=fun k hk=>by rw[zCE]; lia
 rw[list_sort_plain];refine zCC (listItems_at ho rfl (zCC (listUpdate_at ho rfl ?_ (by rw[zAh]; exact line _ h64) (zAD _))));obtain⟨e1,ho1⟩:∃ e1,(s.heap.update a (Obj.mapSeq fun _=>(#[]:Array Value))).get? a=some (seqObj "list" #[] e1):=⟨_,get?_update_seq ho fun _ => #[]⟩;refine zCC (seqEpoch_at ho1 rfl (zCC (wpAny_newTuple (zCC (wpAny_newList (wpAny_holding ?_) (zAD _))) (by rw[zAC,zAh]; exact line _ h64))));have sb:=zAU.update s.heap a (Obj.mapSeq fun _=>(#[]:Array Value));have old:∀ b o,b≠a->s.heap.get? b=some o->(((s.heap.update a (Obj.mapSeq fun _=>(#[]:Array Value))).push (seqObj "tuple" vs.toArray 0)).push (seqObj "list" #[] 0)).get? b=some o:=fun b o nb e=>
  zAd _ (zAd _ ((sb.2 b nb).trans e))
 have ho3:(((s.heap.update a (Obj.mapSeq fun _=>(#[]:Array Value))).push (seqObj "tuple" vs.toArray 0)).push (seqObj "list" #[] 0)).get? a=some (seqObj "list" #[] e1):=zAd _ (zAd _ ho1);show wpAny (model prog w) A _ P E { s with heap:=((s.heap.update a (Obj.mapSeq fun _=>(#[]:Array Value))).push (seqObj "tuple" vs.toArray 0)).push (seqObj "list" #[] 0) }
 dsimp only
 have sz:vs.toArray.size=vs.length:=zAh ..;by_cases few:vs.toArray.size<2
 ·rw[if_pos few,if_pos few]
  refine zCC (zCD ?_);rw[StateT.run_pure];refine zCC (zCD ?_);have eo:(arrOf (SortSt.mk' general' (vs.toArray.zip vs.toArray) #[] 7 none)).map (·.2)=(Nv vs (zAM vs.length).toArray).toArray:=GV (by lia);show wpAny (model prog w) A (do
   let x <- seqEpoch a
   let _ <- Builtin.List.listUpdate (.ref a) fun _=>(arrOf (SortSt.mk' general' (vs.toArray.zip vs.toArray) #[] 7 none)).map (·.2)
   _) P E _
  rw[eo];refine zCC (seqEpoch_at ho3 rfl (zCC (listUpdate_at ho3 rfl ?_ (zAD _) (by rw[zAh,A5 (n:=vs.length) (Array.Perm.refl _)]; have:=line _ h64; lia))));simp only [bne_self_eq_false,zBN,if_false];refine zCD (h _ (Array.Perm.refl _) fun i j hij hj=>?_);rw[show i=j by lia];exact KeyOrd.kle_refl _
 ·rw[if_neg few,if_neg few]
  have two:2<=vs.length:=by lia
  obtain⟨κ,kind,less⟩:=ask _ old two;refine zCC (kind _ _ ?_);have tree:(kas_sort vs.length).kasWp (kas_ask prog w A κ vs) (fun p s'=>s'={ s with heap:=((s.heap.update a (Obj.mapSeq fun _=>(#[]:Array Value))).push (seqObj "tuple" vs.toArray 0)).push (seqObj "list" #[] 0) }/\CRS.Pm vs.length p/\CRS.Up key p vs.length)
    { s with heap:=((s.heap.update a (Obj.mapSeq fun _=>(#[]:Array Value))).push (seqObj "tuple" vs.toArray 0)).push (seqObj "list" #[] 0) }:=
   CRS.run_wp (lt:=CRS.ltK key) (V:=fun i=>i<vs.length) (fun i j C hi hj hC=>less i j hi hj C hC) (fun p hp=>⟨rfl,hp⟩) _ (CRS.run_sort (by lia) fun p h1 h2=>⟨h1,h2⟩)
  refine zCC (wpAny_mono (kat_run (ks:=vs) (vs:=vs) (Q:=fun st' s'=>s'={ s with heap:=((s.heap.update a (Obj.mapSeq fun _=>(#[]:Array Value))).push (seqObj "tuple" vs.toArray 0)).push (seqObj "list" #[] 0) }/\failedOf st'=none/\∃ p,CRS.Pm vs.length p/\CRS.Up key p vs.length/\(arrOf st').map (·.2)=(Nv vs p).toArray)
   rfl two h64 (fun p st' s' _ har hf ⟨es,g1,g2⟩=>⟨es,hf,p,g1,g2,kat_snds rfl har⟩) tree) ?_ fun _ _ e=>e)
  rintro ⟨⟨⟩,st'⟩ s' ⟨rfl,hf,p,hp,hu,eo⟩;show wpAny (model prog w) A (do
   let x <- seqEpoch a
   let _ <- Builtin.List.listUpdate (.ref a) fun _=>(arrOf st').map (·.2)
   _) P E _
  rw[eo];refine zCC (seqEpoch_at ho3 rfl (zCC (listUpdate_at ho3 rfl ?_ (zAD _) (by rw[zAh,A5 hp]; have:=line _ h64; lia))));rw[hf];simp only [bne_self_eq_false,zBN,if_false];exact zCD (h p hp hu)
theorem Vz {O:KeyOrd} {key:Nat->O.α} {l:Addr} {vs:List Value} {Q:Value->Shared->Prop} (hl:s.heap.IsList l vs.toArray) (h64:vs.length<64)
  (ask:∀ (A:Around) (h':Heap),(∀ b o,s.heap.get? b=some o->h'.get? b=some o)->2<=vs.length->FO prog w A vs O key { s with heap:=h' })
  (h:∀ p,CRS.Pm vs.length p->CRS.Up key p vs.length->Q (.ref (s.heap.objs.size+1)) { s with heap:=sortedAll s.heap vs (Nv vs p).toArray }) :
  wpAny (model prog w) A (call (.builtin "sorted") [.ref l]) Q E s:=by
 have line:vs.length<=sizeLine:=by rw[zCE]; omega
 refine Calls.call_function_entry kind_sorted plain_sorted entry_sorted (args_sorted1 _) ?_;unfold Builtin.«sorted»;refine zCC (m:=checkCount "sorted" 1 1 _) (zCD (zCC (collect_list hl (zCC (wpAny_newList ?_ line)))));have sz:((s.heap.push (seqObj "list" #[] 0)).update s.heap.objs.size (Obj.mapSeq (· ++ vs.toArray))).objs.size=s.heap.objs.size+1:=by rw[Heap.size_update,size_push']
 have at1:(((s.heap.push (seqObj "list" #[] 0)).update s.heap.objs.size (Obj.mapSeq (· ++ vs.toArray))).push (seqObj "list" vs.toArray 0)).get? (s.heap.objs.size+1)=some (seqObj "list" vs.toArray 0):=by
  rw[<- sz];exact zAu _ rfl
 have old:∀ b o,s.heap.get? b=some o->(((s.heap.push (seqObj "list" #[] 0)).update s.heap.objs.size (Obj.mapSeq (· ++ vs.toArray))).push (seqObj "list" vs.toArray 0)).get? b=some o:=fun b o e=>
  zAd _ (((zAU.update (s.heap.push (seqObj "list" #[] 0)) s.heap.objs.size (Obj.mapSeq (· ++ vs.toArray))).2 b (zAw (zAp e))).trans (zAd _ e))
 show wpAny (model prog w) _ _ _ _ { s with heap:=((s.heap.push (seqObj "list" #[] 0)).update s.heap.objs.size (Obj.mapSeq (· ++ vs.toArray))).push (seqObj "list" vs.toArray 0) };rw[sz];refine zCC (wpAny_holding (wpAny_call_entry slot_list_sort ⟨_,at1,rfl⟩ entry_list_sort (GT (O:=O) (key:=key) at1 h64 (fun h' k two=>?_) fun p hp hu=>⟨_,rfl,?_⟩) (args_list_sort _)))
 ·exact ask _ h' (fun b o e=>k b o (zAw (zBw (zAp e))) (old b o e)) two
 ·exact zCD ⟨_,rfl,h p hp hu⟩
theorem Zy {Q:Bool->Shared->Prop}:∀ {xs ys:List Value} {ns ms:List Int} (i:Nat),IntsAre xs ns->IntsAre ys ms->ns.length=ms.length->Q (HT.lexLt ns ms) s->KatLex prog w A true false Q (xs.zip ys) i s
 | _,_,_,_,i,.nil,.nil,_,h=>kat_nil h
 | _,_,_,_,_,.nil,.cons _ _ _,e,_=>by simp at e
 | _,_,_,_,_,.cons _ _ _,.nil,e,_=>by simp at e
 | _,_,_,_,i,.cons a t r,.cons b u r',e,h=>by
  rw[List.zip_cons_cons];refine kat_cons (wpAny_eqBool_int ?_);rw[HT.lexLt_cons] at h;by_cases c:a=b
  ·rw[if_pos c] at h
   have e2:(a==b)=true:=by rw[c]; exact beq_self_eq_true b
   rw[e2];exact kat_yes (Zy (i+1) r r' (by simpa using e) h)
  ·rw[if_neg c] at h
   have e2:(a==b)=false:=by simpa using c
   rw[e2];refine kat_no ?_;cases i with
   | zero=>exact oneLt_int h
   | succ i=>exact kat_one _ _ (PyProof.Rows.lt_int h)
def TupV (h:Heap) (k:Nat):List Value->List (List Int)->Prop
 | [],[]=>True
 | v::vs,r::rs=>(∃ (t:Addr) (xs:List Value),v = .ref t/\IsTup h t xs.toArray/\IntsAre xs r/\r.length=k)/\TupV h k vs rs
 | _,_=>False
theorem TupV.keep {h h':Heap} {k:Nat} (kp:∀ b o,h.get? b=some o->h'.get? b=some o):∀ {vs:List Value} {rs:List (List Int)},TupV h k vs rs->TupV h' k vs rs
 | [],[],_=>trivial
 | [],_::_,z=>z.elim
 | _::_,[],z=>z.elim
 | v::vs,r::rs,⟨⟨t,xs,e,⟨o,ho,hc⟩,z⟩,q⟩=>⟨⟨t,xs,e,⟨o,kp _ _ ho,hc⟩,z⟩,q.keep kp⟩
theorem TupV.at {h:Heap} {k:Nat}:∀ {vs:List Value} {rs:List (List Int)} {i:Nat},TupV h k vs rs->i<vs.length->∃ (t:Addr) (xs:List Value),vs.getD i Value.none = .ref t/\IsTup h t xs.toArray/\IntsAre xs (rs.getD i [])/\(rs.getD i []).length=k
 | [],[],_,_,z=>by simp at z
 | [],_::_,_,z,_=>z.elim
 | _::_,[],_,z,_=>z.elim
 | v::vs,r::rs,0,⟨⟨t,xs,e,z⟩,q⟩,_=>⟨t,xs,e,z⟩
 | v::vs,r::rs,i+1,⟨_,q⟩,l=>q.at (i:=i) (by simpa using l)
theorem TupV.firsts {h:Heap} {k:Nat}:∀ {vs:List Value} {rs:List (List Int)},TupV h (k+1) vs rs->∃ fs:List Value,KatTups h vs fs/\fs.length=vs.length/\∀ v∈fs,∃ (n:Int) (t:Tok),v = .int n t
 | [],[],_=>⟨[],trivial,rfl,fun _ z=>nomatch z⟩
 | [],_::_,z=>z.elim
 | _::_,[],z=>z.elim
 | v::vs,r::rs,⟨⟨t,xs,e,⟨o,ho,hc,n,hd⟩,ia,l⟩,q⟩=>by
  obtain⟨fs,h1,h2,h3⟩:=q.firsts;cases ia with
  | nil=>simp at l
  | cons a u rr=>
   refine⟨.int a u::fs,⟨⟨t,o,_,n,e,ho,hc,hd,by simp⟩,h1⟩,by rw[zAg,zAg,h2],fun y hy=>?_⟩;rcases zAn.mp hy with z | z
   ·exact⟨a,u,z⟩
   ·exact h3 y z
theorem Vn {M:Model} {h:Heap} (n:Int) (t:Tok):Looks M h (typeOf (.int n t)) (.type "int"):=fun A Q E s _ q=>wpAny_of_eq rfl q
theorem Z8 {vs:List Value} {rs:List (List Int)} {k:Nat} (T:TupV s.heap (k+1) vs rs) (two:2<=vs.length):FO prog w A vs LexO (fun i=>rs.getD i []) s:=by
 obtain⟨fs,h1,h2,h3⟩:=T.firsts;refine⟨tuples' (Value.type "int" != Value.type "tuple"),fun Q E q=>kat_kind h1 (by lia) (fun v hv=>?_) rfl q,fun i j hi hj C hC=>?_⟩
 ·obtain⟨n,t,rfl⟩:=h3 v hv
  exact Vn n t
 ·obtain⟨t,xs,e,⟨o,ho,hc,n,hd⟩,ia,l⟩:=T.at hi
  obtain⟨t',xs',e',⟨o',ho',hc',n',hd'⟩,ia',l'⟩:=T.at hj;rw[e,e'];have ls:=ia.length;have ls':=ia'.length;have nb:(Value.type "int" != Value.type "tuple")=true:=by decide +kernel
  rw[nb];refine kat_lt ho hd ho' hd' ?_;have ef:decide (xs.toArray.size<xs'.toArray.size)=false:=decide_eq_false (by simp only [zAh]; lia);rw[ef];exact Zy 0 ia ia' (l.trans l'.symm) hC
end
def TupI (K:zAa) (H:Hp) (k:Nat):List V->List (List Int)->Prop
 | [],[]=>True
 | y::ys,r::rs=>(∃ t,y = .ref t/\SqT K H t (r.map V.int)/\r.length=k)/\TupI K H k ys rs
 | _,_=>False
theorem Ti:∀ {r:List Int} {us:List Value},Vals (r.map V.int) us->IntsAre us r
 | [],_,.nil=>.nil
 | a::r,_,.cons ⟨t,e⟩ rr=>by subst e; exact .cons a t (Ti rr)
section
variable {X:Cx}
theorem TupI.vals {pins:List (Addr×Obj)} {σ:St} {H:Hp} {s:Shared} {k:Nat} (I:Inv X pins σ H s):∀ {ys:List V} {rs:List (List Int)} {us:List Value},TupI X.K H k ys rs->Vals ys us->TupV s.heap k us rs
 | [],[],_,_,.nil=>trivial
 | [],_::_,_,z,_=>z.elim
 | _::_,[],_,z,_=>z.elim
 | y::ys,r::rs,_,⟨⟨t,e,h,l⟩,q⟩,.cons rv rr=>by
  subst e;cases rv;obtain⟨its,rv',p,_⟩:=I.tuple h;exact⟨⟨t,its,rfl,p,Ti rv',l⟩,q.vals I rr⟩
theorem D3:∀ {ys:List V} {us:List Value} (i:Nat),Vals ys us->RelV (ys.getD i .non) (us.getD i Value.none)
 | _,_,_,.nil=>rfl
 | _,_,0,.cons r _=>r
 | _,_,i+1,.cons _ rr=>by
  rw[List.getD_cons_succ,List.getD_cons_succ];exact D3 i rr
theorem Te {ys:List V} {us:List Value} (r:Vals ys us):∀ l:List Nat,Vals (l.map fun i=>ys.getD i .non) (l.map fun i=>us.getD i Value.none)
 | []=>.nil
 | i::l=>.cons (D3 i r) (Te r l)
def JO (K:zAa):List V->Hp->VK->Prop:=fun xs H Q=>∃ a ys rs,∃ k:Nat,xs=[.ref a]/\SqL K H a ys/\ys.length<64/\TupI K H (k+1) ys rs /\
 ∀ (l:Addr) (p:Array Nat),H l=none->CRS.Pm ys.length p->CRS.Up (O:=LexO) (fun i=>rs.getD i []) p ys.length->Q (.ref l) (upd H l (.lst (p.toList.map fun i=>ys.getD i .non)))
theorem GR:Gc X (.builtin "sorted") (JO X.K):=by
 intro pins s σ H xs us Q I r h;obtain⟨a,ys,rs,k,rfl,hq,l64,T,q⟩:=h;obtain⟨u,rfl,rx⟩:=Jb r;cases rx;obtain⟨its,rv,pl,hz⟩:=I.list hq;have hl:=rv.length;have TV:=T.vals I rv;refine Vz (O:=LexO) (key:=fun i=>rs.getD i []) pl.isList (by lia) (fun A' h' kp two=>Z8 (s:={ s with heap:=h' }) (TV.keep kp) two) fun p hp hu=>?_;obtain⟨e,he⟩:=sortedAll_at s.heap its (Nv its p).toArray;have lp:(p.toList.map fun i=>ys.getD i .non).length<=sizeLine:=by
  rw[zAb,zAC,hp.size]
  lia
 rw[<- hl] at hp hu;exact⟨.ref (s.heap.objs.size+1),_,I.laid (t':=s.toks) (fun b o q=>sortedAll_old q) (zBl _) (show ObjOk X.prog X.w _ _ _ (.lst _) from ⟨lp,Nv its p,e,Te rv _,he⟩),rfl,q _ p (I.hok.fresh (zBl _)) hp hu⟩
def OX (K:zAa) (t:TE):TT:=fun σ H Q=>t σ H fun x H1=>∃ k,IM K x H1 k/\Q k H1
theorem AR {e:Expr} {t:TE} (h:PE X e t) (he:∀ whole,isTrue e X.env whole=(do let v <- whole; standAt e.pos; holding [v] (truthy v)):=by intro _; rfl):PT X e (OX X.K t):=by
 intro pins s σ H Q I hw;exact isTrue_plain (Cw (h pins s σ H _ I hw) fun v s1 ⟨x,H1,I1,r1,q1⟩=>BR pins s1 σ H1 x v Q I1 r1 q1) (he _)
end
end L2
namespace L2
open PySem PySem.Spec PyProof.Rows
structure FunD (K:zAa) (x qual:Str) (st:Stmt) (f:Addr) (fd:zCG):Prop where
 ex:∃ (oc:Value) (od:Option Addr) (dV kV doc pm:Value) (an:Option Addr) (cdv ct:Value) (osl:Array (Option Value)),
  fd=zAW x qual (Dk st) (Df st) (As st) dV kV doc pm an cdv ct/\K.lookup f=some ⟨oc,od,.func fd,osl⟩/\zBo K cdv qual=true
 kp:zAT K (.ref f)=true
section
variable {P:Program} {w:World} {K:zAa} {mg:Str->Option Value} {base:Heap}
theorem FunD.ok {x qual:Str} {st:Stmt} {f:Addr} {fd:zCG} {N ps:List Str} {k:Nat} {sp:Sp} (F:FunD K x qual st f fd) (S:Bd N ps (As st)) (len:∀ vs H Q E,sp vs H Q E->vs.length=ps.length)
  (hbody:∀ (cdv:Value) (A:Around) (outer:List Env) (s:Shared) (H:Hp) (vs:List V) (Q:VK) (E:XK),Room k (A.deeper (envOfC qual (As st) s.heap.objs.size f cdv))->sp vs H Q E ->
   ∃ t,PSs (F8 Da P w K mg base N qual (As st) f cdv A outer s H E).nox (Df st) t/\t { nx:=fun _ H'=>Q .non H',rt:=Q } (Mo N vs) H):FnOk P w K mg base Da (k+1) f fd ps sp:=by
 obtain⟨oc,od,dV,kV,doc,pm,an,cdv,ct,osl,e,lk,hcd⟩:=F.ex;subst e;refine IA lk hcd S len fun A outer s H vs Q E hr hsp=>?_;obtain⟨t,h,q⟩:=hbody cdv A outer s H vs Q E hr hsp;exact⟨t,h.nox,q⟩
theorem GY {x qual:Str} {st:Stmt} {f:Addr} {oc:Value} {od an:Option Addr} {osl:Array (Option Value)} {dV kV doc pm cdv ct:Value} (l:K.lookup f=some ⟨oc,od,.func (zAW x qual (Dk st) (Df st) (As st) dV kV doc pm an cdv ct),osl⟩)
  (c:zBo K cdv qual=true) (k:zAT K (.ref f)=true):FunD K x qual st f (zAW x qual (Dk st) (Df st) (As st) dV kV doc pm an cdv ct):=⟨⟨oc,od,dV,kV,doc,pm,an,cdv,ct,osl,rfl,l,c⟩,k⟩
end
theorem Tj {K K':zAa} {a:Addr} {xs:List V} {i1 i2:Nat} {tb:TS} {D:Om} {σ:St} {H:Hp} (Pv:Nat->St->Hp->Prop) (h0:Pv 0 σ H) (hl:∀ i σ H,i<=xs.length->Pv i σ H->SqL K H a xs)
  (hs:∀ i x σ H t,xs[i]?=some x->Pv i σ H->H t=none->tb { D with nx:=Pv (i+1),ct:=Pv (i+1),bk:=D.nx } ((σ.set i1 (some (.int i))).set i2 (some x)) (upd H t (.tup [.int i,x]))) (hd:∀ σ H,Pv xs.length σ H->D.nx σ H) :
  ∃ W:Nat->Nat->St->Hp->Prop,(∃ m,W 0 m σ H)/\∀ i m σ H,W i m σ H ->
   ((KR K a).stop i H/\D.nx σ H)\/((KR K a).go i H/\∃ N:St->Hp->Prop,(∀ σ' H',N σ' H'->∃ m',m'<m/\W (i+1) m' σ' H')/\∀ x H',(KR K a).yld i H x H'->X5 K' 2 (Nc (Fb i1) (Nc (Fb i2) AX)) x σ H' fun σ2 H2=>tb { D with nx:=N,ct:=N,bk:=D.nx } σ2 H2):=by
 refine⟨fun i m σ H=>m=xs.length-i/\i<=xs.length/\Pv i σ H,⟨xs.length,by simp,zAD _,h0⟩,?_⟩;rintro i m σ H ⟨rfl,hi,p⟩;have q:=hl i σ H hi p;by_cases hlt:i<xs.length
 ·refine .inr ⟨⟨xs,xs[i],q,by simp [hlt]⟩,Pv (i+1),fun σ' H' p'=>⟨xs.length-(i+1),by omega,rfl,hlt,p'⟩,fun x H' y=>?_⟩
  obtain⟨t,z,ex,ht,hz,e3⟩:=y;subst ex e3;exact⟨t,_,rfl,SqT.of Ab,rfl,_,_,rfl,_,_,rfl,rfl,hs i z σ H t (hz xs q) p ht⟩
 ·obtain rfl:i=xs.length:=by omega
  exact .inl ⟨⟨xs,q,zAl _⟩,hd σ H p⟩
def LO (K:zAa) (a b:Addr):It:=
 ⟨fun i H=>∃ xs ys x y,SqL K H a xs/\SqL K H b ys/\xs[i]?=some x/\ys[i]?=some y,
   fun i H v H'=>∃ t x y,v = .ref t/\H t=none/\(∀ xs,SqL K H a xs->xs[i]?=some x)/\(∀ ys,SqL K H b ys->ys[i]?=some y)/\H'=upd H t (.tup [x,y]),
   fun i H=>∃ xs ys,SqL K H a xs/\SqL K H b ys/\(xs.length<=i\/ys.length<=i)⟩
structure Zp (z u o i j:Addr):Prop where
 uz:u≠z
 oz:o≠z
 iz:i≠z
 jz:j≠z
 uo:u≠o
 ui:u≠i
 uj:u≠j
 oi:o≠i
 oj:o≠j
 ij:i≠j
theorem KC (n:Nat):Zp (n+4) (n+2) (n+3) n (n+1):=
 ⟨zAw (by lia),zAw (by lia),zAw (by lia),zAw (by lia),zAw (by lia),zBk (by lia),zBk (by lia),zBk (by lia),zBk (by lia),zAw (by lia)⟩
def HU (a b z u o i j:Addr) (k:Nat) (h:Heap):Prop:=IsZip h z u o .none/\IsPair h u (.ref i) (.ref j)/\(∃ x y,IsPair h o x y)/\h.IsListIter i a k/\h.IsListIter j b k
theorem Ve {a b z u o i j:Addr} {k:Nat} {h:Heap} {xs ys:Array Value} (D:Zp z u o i j) (st:HU a b z u o i j k h) (ha:h.IsList a xs) (hb:h.IsList b ys):ZipApart z u o i j a b:=by
 obtain⟨hz,hu,⟨x,y,ho⟩,⟨oi,ei,ci,_⟩,⟨oj,ej,cj,_⟩⟩:=st;have ne:∀ {c d:Addr} {p q:Obj} {zs:Array Value},h.IsList c zs->h.get? d=some q->q.cls ≠ .type "list" -> c≠d:=fun {c d p q zs} hl hd hn e=>by
  obtain⟨p',hp,hc,_⟩:=hl;rw[e,hd] at hp;cases hp;exact hn hc
 have nz:(Value.type "zip") ≠ .type "list" := by decide +kernel
 have nt:(Value.type "tuple") ≠ .type "list" := by decide +kernel
 have ni:(Value.type "list_iterator") ≠ .type "list" := by decide +kernel
 have hci:oi.cls ≠ .type "list" := by rw[ci]; exact ni
 have hcj:oj.cls ≠ .type "list" := by rw[cj]; exact ni
 constructor <;> first
  | exact D.uz | exact D.oz | exact D.iz | exact D.jz | exact D.uo | exact D.ui | exact D.uj | exact D.oi | exact D.oj | exact D.ij
  | exact ne (p:=oi) ha hz nz | exact ne (p:=oi) hb hz nz | exact ne (p:=oi) ha ho nt | exact ne (p:=oi) hb ho nt | exact ne (p:=oi) ha hu nt | exact ne (p:=oi) hb hu nt
  | exact ne (p:=oi) ha ei hci | exact ne (p:=oi) hb ei hci | exact ne (p:=oi) ha ej hcj | exact ne (p:=oi) hb ej hcj
theorem AY {P:Program} {w:World} {K:zAa} {elts:List Expr} {n:Nat} {tp:Pos} (a b z u o i j:Addr) (D:Zp z u o i j) :
  Wq P w K (.Tuple elts n tp) (LO K a b) [z,u,o,i,j] z (HU a b z u o i j) where
 mem:=by simp
 obj:=fun k h st c hc=>by
  obtain⟨hz,hu,⟨x,y,ho⟩,⟨oi,ei,ci,di⟩,⟨oj,ej,cj,dj⟩⟩:=st;simp only [zAn,zBd,or_false] at hc;rcases hc with rfl | rfl | rfl | rfl | rfl
  ·exact⟨_,hz,fun v q=>by
    have q':Data.fields _=Data.cell v:=q;cases q'⟩
  ·exact⟨_,hu,fun v q=>by
    have q':Data.seq _ _=Data.cell v:=q;cases q'⟩
  ·exact⟨_,ho,fun v q=>by
    have q':Data.seq _ _=Data.cell v:=q;cases q'⟩
  ·exact⟨oi,ei,fun v q=>by rw[di] at q; cases q⟩
  ·exact⟨oj,ej,fun v q=>by rw[dj] at q; cases q⟩
 keep:=fun k h h' st kk=>by
  obtain⟨hz,hu,⟨x,y,ho⟩,h1,h2⟩:=st;exact⟨kk z (by simp) _ hz,kk u (by simp) _ hu,⟨x,y,kk o (by simp) _ ho⟩,h1.at fun ob e=>kk i (by simp) ob e,h2.at fun ob e=>kk j (by simp) ob e⟩
 item:=by
  intro X hP hw hK hc k pins s σ H E I hf st hg;subst hP hw hK;obtain⟨xs,ys,x,y,hq1,hq2,hx,hy⟩:=hg;obtain⟨its,rv,p,hz⟩:=I.list hq1;obtain⟨jts,rv',p',hz'⟩:=I.list hq2;obtain⟨v,hv,ru⟩:=rv.get hx;obtain⟨v',hv',ru'⟩:=rv'.get hy;have DD:=Ve D st p.isList p'.isList;obtain⟨sz,su,⟨x0,y0,so⟩,s1,s2⟩:=id st;have fz:=hf z (by simp);have fu:=hf u (by simp);have fo:=hf o (by simp);have fi:=hf i (by simp);have fj:=hf j (by simp);refine wpAny_pyNext_zip_item DD sz su so s1 s2 p.isList p'.isList (x:=v) (y:=v') (by simpa using hv) (by simpa using hv') fun h1 a1 a2 a3 a4 a5 a6 hk=>⟨_,rfl,?_⟩;refine wpAny_letOwnedTupleGo_zip a1 fun h2 hz2 hs2=>?_;have hs2':zAU z h1 h2:=hs2;have hzlt:z<s.heap.objs.size:=zAp sz;have hnT:H s.heap.objs.size=none:=I.hok.fresh (zAl _);have up:∀ c ob,c≠z->c≠o->c≠i->c≠j->s.heap.get? c=some ob->h2.get? c=some ob:=fun c ob c1 c2 c3 c4 q=>(hs2'.2 c c1).trans (hk c ob c1 c2 c3 c4 q);have nch:∀ c,c∉[z,o,i,j]->c≠z/\c≠o/\c≠i/\c≠j:=fun c hc=>by
   simp only [zAn,zBd,or_false,not_or] at hc;exact hc
  have ntr:∀ c ob,H c=some ob->c≠z/\c≠o/\c≠i/\c≠j:=fun c ob q=>
   ⟨fun e=>by (rw[e,fz.1] at q; cases q),fun e=>by (rw[e,fo.1] at q; cases q),fun e=>by (rw[e,fi.1] at q; cases q),fun e=>by (rw[e,fj.1] at q; cases q)⟩
  have up2:∀ c ob,c∉[z,o,i,j]->s.heap.get? c=some ob->h2.get? c=some ob:=fun c ob hc q=>up c ob (nch c hc).1 (nch c hc).2.1 (nch c hc).2.2.1 (nch c hc).2.2.2 q;have up3:∀ c ob ob',H c=some ob'->s.heap.get? c=some ob->h2.get? c=some ob:=fun c ob ob' hc q=>up c ob (ntr c ob' hc).1 (ntr c ob' hc).2.1 (ntr c ob' hc).2.2.1 (ntr c ob' hc).2.2.2 q;have htup:h2.get? s.heap.objs.size=some { cls:=.type "tuple",data:=.seq #[v,v'] }:=(hs2'.2 _ (zBk hzlt)).trans a5;have I1:Inv X pins σ (upd H s.heap.objs.size (.tup [x,y])) { s with heap:=h2,gens:=s.gens,drawn:=s.drawn,toks:=s.toks }:=by
   refine I.step (ch:=[z,o,i,j]) (fun c hc=>?_) (fun c ob _ _ hc q _=>up2 c ob hc q) (fun c ob _ _ hc q _=>⟨ob.slots,up2 c ob hc q⟩) (fun c ob _ q n=>by rw[Ar (zAw (zAp q))]; exact n)
    (fun c ob hc q=>⟨ob,up2 c ob hc q⟩) (fun c xs q=>by rw[Ar (Ap q hnT)]; exact q) (fun c ob u q=>by rw[Ar (Ap q hnT)]; exact q) (fun c ps q=>⟨#[],by rw[Ar (Ap q hnT),q]; simp⟩)
    (fun m hm=>?_) (fun c ob q=>?_) I.bare
   ·simp only [zAn,zBd,or_false] at hc
    rcases hc with rfl | rfl | rfl | rfl
    ·exact⟨fz.2.2.2.1,fz.2.1,fz.2.2.2.2.1,fz.2.2.2.2.2⟩
    ·exact⟨fo.2.2.2.1,fo.2.1,fo.2.2.2.2.1,fo.2.2.2.2.2⟩
    ·exact⟨fi.2.2.2.1,fi.2.1,fi.2.2.2.2.1,fi.2.2.2.2.2⟩
    ·exact⟨fj.2.2.2.1,fj.2.1,fj.2.2.2.2.1,fj.2.2.2.2.2⟩
   ·obtain⟨ob,es,ep,hoL,r⟩:=hm
    exact⟨ob,es,ep,up _ ob (Ne.symm fz.2.1) (Ne.symm fo.2.1) (Ne.symm fi.2.1) (Ne.symm fj.2.1) hoL,r⟩
   ·by_cases hb:c=s.heap.objs.size
    ·subst hb
     rw[Ab] at q;cases q;exact⟨Cf (by show 2<=1000; decide),[v,v'],.cons ru (.cons ru' .nil),_,htup,rfl,_,rfl⟩
    ·rw[Ar hb] at q
     refine (I.hok c ob q).stay (fun d w' hd q2=>?_) (fun d q2=>by rw[Ar (Ap q2 hnT)]; exact q2) (fun d zs q2=>by rw[Ar (Ap q2 hnT)]; exact q2);rcases hd with rfl | hd
     ·exact up3 _ w' _ q q2
     ·exact up3 _ w' _ hd q2
  refine⟨.ref s.heap.objs.size,_,I1,rfl,⟨_,x,y,rfl,hnT,fun zs hy'=>by rw[I.list_inj hy' hq1]; exact hx,fun zs hy'=>by rw[I.list_inj hy' hq2]; exact hy,rfl⟩,⟨hz2,?_,⟨v,v',?_⟩,?_,?_⟩,fun c hc=>?_⟩
  ·exact (hs2'.2 u D.uz).trans (hk u _ D.uz D.uo D.ui D.uj su)
  ·exact (hs2'.2 o D.oz).trans a2
  ·exact a3.at fun ob q=>(hs2'.2 i D.iz).trans q
  ·exact a4.at fun ob q=>(hs2'.2 j D.jz).trans q
  ·have hl:c<s.heap.objs.size:=by
    simp only [zAn,zBd,or_false] at hc;rcases hc with rfl | rfl | rfl | rfl | rfl
    ·exact zAp sz
    ·exact zAp su
    ·exact zAp so
    ·obtain⟨_,q,_⟩:=s1; exact zAp q
    ·obtain⟨_,q,_⟩:=s2; exact zAp q
   rw[Ar (zAw hl)];exact (hf c hc).1
 done:=by
  intro X hP hw hK hc k pins s σ H E I hf st hg;subst hP hw hK;obtain⟨xs,ys,hq1,hq2,hle⟩:=hg;obtain⟨its,rv,p,hz⟩:=I.list hq1;obtain⟨jts,rv',p',hz'⟩:=I.list hq2;have DD:=Ve D st p.isList p'.isList;obtain⟨sz,su,⟨x0,y0,so⟩,s1,s2⟩:=id st;have fz:=hf z (by simp);have fo:=hf o (by simp);have fi:=hf i (by simp);have fj:=hf j (by simp);have hl:=rv.length;have hl':=rv'.length;refine wpAny_pyNext_zip_end (I.ok.hd hc) DD sz su so s1 s2 p.isList p'.isList ?_ fun h' hk=>⟨rfl,?_⟩
  ·rcases hle with e | e
   ·exact .inl (by simp; lia)
   ·exact .inr (by simp; lia)
  ·have nch:∀ c,c∉[z,o,i,j]->c≠z/\c≠o/\c≠i/\c≠j:=fun c hc=>by
    simp only [zAn,zBd,or_false,not_or] at hc;exact hc
   have ntr:∀ c ob,H c=some ob->c≠z/\c≠o/\c≠i/\c≠j:=fun c ob q=>
    ⟨fun e=>by (rw[e,fz.1] at q; cases q),fun e=>by (rw[e,fo.1] at q; cases q),fun e=>by (rw[e,fi.1] at q; cases q),fun e=>by (rw[e,fj.1] at q; cases q)⟩
   have up2:∀ c ob,c∉[z,o,i,j]->s.heap.get? c=some ob->h'.get? c=some ob:=fun c ob hc q=>hk c ob (nch c hc).1 (nch c hc).2.1 (nch c hc).2.2.1 (nch c hc).2.2.2 q;have up3:∀ c ob ob',H c=some ob'->s.heap.get? c=some ob->h'.get? c=some ob:=fun c ob ob' hc q=>hk c ob (ntr c ob' hc).1 (ntr c ob' hc).2.1 (ntr c ob' hc).2.2.1 (ntr c ob' hc).2.2.2 q;refine I.step (H':=H) (ch:=[z,o,i,j]) (fun c hc=>?_) (fun c ob _ _ hc q _=>up2 c ob hc q) (fun c ob _ _ hc q _=>⟨ob.slots,up2 c ob hc q⟩) (fun c ob _ q n=>n)
    (fun c ob hc q=>⟨ob,up2 c ob hc q⟩) (fun c xs q=>q) (fun c ob u q=>q) (fun c ps q=>⟨#[],by rw[q]; simp⟩)
    (fun m hm=>?_) (fun c ob q=>?_) I.bare
   ·simp only [zAn,zBd,or_false] at hc
    rcases hc with rfl | rfl | rfl | rfl
    ·exact⟨fz.2.2.2.1,fz.2.1,fz.2.2.2.2.1,fz.2.2.2.2.2⟩
    ·exact⟨fo.2.2.2.1,fo.2.1,fo.2.2.2.2.1,fo.2.2.2.2.2⟩
    ·exact⟨fi.2.2.2.1,fi.2.1,fi.2.2.2.2.1,fi.2.2.2.2.2⟩
    ·exact⟨fj.2.2.2.1,fj.2.1,fj.2.2.2.2.1,fj.2.2.2.2.2⟩
   ·obtain⟨ob,es,ep,hoL,r⟩:=hm
    exact⟨ob,es,ep,hk _ ob (Ne.symm fz.2.1) (Ne.symm fo.2.1) (Ne.symm fi.2.1) (Ne.symm fj.2.1) hoL,r⟩
   ·refine (I.hok c ob q).stay (fun d w' hd q2=>?_) (fun d q2=>q2) (fun d zs q2=>q2)
    rcases hd with rfl | hd
    ·exact up3 _ w' _ q q2
    ·exact up3 _ w' _ hd q2
 self:=fun _ _ _ _ _ st h=>wpAny_pyIter_zip st.1 h
def NV (K:zAa) (ta:TA):TI:=fun σ H R=>ta σ H fun vs H1=>∃ a b,vs=[.ref a,.ref b]/\(∃ xs,SqL K H1 a xs)/\(∃ ys,SqL K H1 b ys)/\R (LO K a b) H1
theorem KE {X:Cx} {e1 e2:Expr} {ta:TA} {p pos tp:Pos} {elts:List Expr} {n:Nat} (hg:Gl X "zip") (hm:X.mg "zip" = none) (ha:PA X [e1,e2] ta) (hs:starEach [e1,e2] X.env=[(false,eval e1 X.env),(false,eval e2 X.env)]:=by rfl) (hs2:starEach [e2] X.env=[(false,eval e2 X.env)]:=by rfl) :
  PI X (.Tuple elts n tp) (.Call (.Name "zip" p) [e1,e2] [] pos) (NV X.K ta):=by
 intro pins s σ H R I h;refine Call_ (Hg I hg hm (show zCF "zip" = some (.type "zip") from rfl) (PyProof.Rows.callWith_type1 (Cw (ha pos pins s σ H _ I h) fun us s1 ⟨vs,H1,I1,r1,q1⟩=>?_) (by rw[hs,hs2]) (by rw[hs2]; rfl)));obtain⟨a,b,ev,⟨xs,hq1⟩,⟨ys,hq2⟩,q⟩:=q1;subst ev;cases r1 with
 | cons ra rr=>
  cases rr with
  | cons rb rr=>
   cases rr
   cases ra
   cases rb
   obtain⟨its,rv,pl,hz⟩:=I1.list hq1;obtain⟨jts,rv',pl',hz'⟩:=I1.list hq2;refine call_zip_2 pl.isList pl'.isList fun h' b1 b2 b3 b4 b5 b6 hk=>?_;refine wpAny_pyIter_zip b1 ?_;have I2:Inv X pins σ H1 { s1 with heap:=h' }:=I1.kept (t':=s1.toks) hk;refine⟨_,[s1.heap.objs.size+4,s1.heap.objs.size+2,s1.heap.objs.size+3,s1.heap.objs.size,s1.heap.objs.size+1],_,_,H1,rfl,I2,AY a b (s1.heap.objs.size+4) (s1.heap.objs.size+2) (s1.heap.objs.size+3) s1.heap.objs.size (s1.heap.objs.size+1) (KC _),⟨b1,b2,⟨_,_,b3⟩,b4,b5⟩,fun c hc=>?_,q⟩;have le:s1.heap.objs.size<=c:=by
    simp only [zAn,zBd,or_false] at hc;rcases hc with rfl | rfl | rfl | rfl | rfl <;> lia
   exact I1.fpOk le (I1.hok.fresh le)
theorem FW {K K':zAa} {a b:Addr} {xs ys:List V} {i1 i2:Nat} {tb:TS} {D:Om} {σ:St} {H:Hp} (Pv:Nat->St->Hp->Prop) (h0:Pv 0 σ H) (hl:∀ i σ H,i<=min xs.length ys.length->Pv i σ H->SqL K H a xs/\SqL K H b ys)
  (hs:∀ i x y σ H t,xs[i]?=some x->ys[i]?=some y->Pv i σ H->H t=none->tb { D with nx:=Pv (i+1),ct:=Pv (i+1),bk:=D.nx } ((σ.set i1 (some x)).set i2 (some y)) (upd H t (.tup [x,y]))) (hd:∀ σ H,Pv (min xs.length ys.length) σ H->D.nx σ H) :
  ∃ W:Nat->Nat->St->Hp->Prop,(∃ m,W 0 m σ H)/\∀ i m σ H,W i m σ H ->
   ((LO K a b).stop i H/\D.nx σ H)\/((LO K a b).go i H/\∃ N:St->Hp->Prop,(∀ σ' H',N σ' H'->∃ m',m'<m/\W (i+1) m' σ' H')/\∀ x H',(LO K a b).yld i H x H'->X5 K' 2 (Nc (Fb i1) (Nc (Fb i2) AX)) x σ H' fun σ2 H2=>tb { D with nx:=N,ct:=N,bk:=D.nx } σ2 H2):=by
 refine⟨fun i m σ H=>m=min xs.length ys.length-i/\i<=min xs.length ys.length/\Pv i σ H,⟨min xs.length ys.length,rfl,zAD _,h0⟩,?_⟩;rintro i m σ H ⟨rfl,hi,p⟩;obtain⟨q1,q2⟩:=hl i σ H hi p;by_cases hlt:i<min xs.length ys.length
 ·have l1:i<xs.length:=by lia
  have l2:i<ys.length:=by lia
  refine .inr ⟨⟨xs,ys,xs[i],ys[i],q1,q2,by simp [l1],by simp [l2]⟩,Pv (i+1),fun σ' H' p'=>⟨min xs.length ys.length-(i+1),by lia,rfl,by lia,p'⟩,fun v H' y=>?_⟩;obtain⟨t,x,z,ex,ht,hx,hz,e3⟩:=y;subst ex e3;exact⟨t,_,rfl,SqT.of Ab,rfl,_,_,rfl,_,_,rfl,rfl,hs i x z σ H t (hx xs q1) (hz ys q2) p ht⟩
 ·obtain rfl:i=min xs.length ys.length:=by lia
  exact .inl ⟨⟨xs,ys,q1,q2,by lia⟩,hd σ H p⟩
theorem R1 (l:List Nat):∀ n:Nat,(zAz n l.toArray).foldl (· ++ ·) #[]=((zAz n l).flatten).toArray:=fun n=>by
 have go:∀ (n:Nat) (a:List Nat),(zAz n l.toArray).foldl (· ++ ·) a.toArray=(a++(zAz n l).flatten).toArray:=fun n=>by
  induction n with
  | zero=>intro a; simp
  | succ n ih=>
   intro a;rw[zBr,List.foldl_cons,zBr,zBv,<- zBE];have e:a.toArray++l.toArray=(a++l).toArray:=by simp
   rw[e];exact ih (a++l)
 have z:=go n []
 simpa using z
theorem Sj {X:Cx}:Jm X (binaryOp .Mult) (fun x y H Q=>∃ (l:List Nat) (n:Int),x = .str (tx l)/\y = .int n/\1<=n/\n<=1000/\l.length<=1000/\Q (.str (tx (zAz n.toNat l).flatten)) H):=by
 intro pins s σ H x y v u Q I rx ry h;obtain⟨l,n,rfl,rfl,h1,h2,h3,q⟩:=h;obtain⟨t,rfl⟩:=rx;obtain⟨t',rfl⟩:=ry;have hl:(tx l).length=l.length:=Fx l;have small:l.length*n.toNat<=1000*1000:=Nat.mul_le_mul h3 (by lia);refine PySem.P.mul_str ?_ (fun _ _=>?_) (fun _ _=>?_) ?_
 ·rw[decide_eq_false (by lia),decide_eq_false (by lia)]; rfl
 ·rw[hl]
  have:(1000:Int)<=(2^63-1)/n:=Int.le_ediv_of_mul_le (by lia) (by lia)
  lia
 ·rw[hl]
  unfold Builtin.Str.tooLong;simp only [decide_eq_false_iff_not];have:=zCE
  lia
 ·rw[if_neg (by lia)]
  by_cases c:(n==1||(tx l).length==0)=true
  ·rw[if_pos c]
   refine⟨.str (tx (zAz n.toNat l).flatten),H,I,⟨t,?_⟩,q⟩;have e:(zAz n.toNat l).flatten=l:=by
    rcases (Bool.or_eq_true _ _).mp c with z | z
    ·have z':n=1:=by simpa using z
     subst z';simp
    ·have z':l=[]:=by
      rw[hl] at z;exact List.eq_nil_of_length_eq_zero (by simpa using z)
     subst z';simp
   rw[e]
  ·rw[if_neg c]
   refine⟨?_,.str (tx (zAz n.toNat l).flatten),H,I.tok _,⟨s.toks,?_⟩,q⟩
   ·have e:=R1 l n.toNat
    show (⟨(zAz n.toNat (tx l).cps).foldl (· ++ ·) #[]⟩:Str).length<=sizeLine;unfold tx;rw[e];have e2:(⟨((zAz n.toNat l).flatten).toArray⟩:Str)=tx (zAz n.toNat l).flatten:=rfl;rw[e2,Fx,GX,zCE,Nat.mul_comm]
    lia
   ·show Value.str ⟨(zAz n.toNat (tx l).cps).foldl (· ++ ·) #[]⟩ _=Value.str (tx _) _
    have e:=R1 l n.toNat;unfold tx at *;rw[e]
section
variable {prog:Program} {w:World} {A:Around} {E:Value->Shared->Prop} {s:Shared}
end
section
variable {X:Cx} {pins:List (Addr×Obj)} {σ:St} {H:Hp} {s:Shared}
end
section
variable {P:Program} {w:World} {K:zAa} {mg:Str->Option Value} {base:Heap} {N ps:List Str} {qual:Str} {scope:Scope} {f:Addr} {cd:Value} {A:Around} {outer:List Env} {s0:Shared} {H0:Hp} {E:XK} {k:Nat} {sp:Sp} {x:Str} {st:Stmt} {fd:zCG}
end
section
variable {X:Cx} {k:Nat} {f:Addr} {fd:zCG} {ps:List Str} {sp:Sp} {x:Str} {p pos:Pos} {e:Expr} {es:List Expr} {t:TA} {W:St->XK}
end
section
variable {prog:Program} {w:World} {A:Around} {E:Value->Shared->Prop} {env:Env}
variable {nm q:Str} {C N:Addr} {bs bm bmB:List Value} {hdct:Bool} {sn:List Str} {sub:List Value} {ab:Bool} {col:Option Bool} {dd:Option Addr} {k0 k1 k2 k3 k5:Option Value} {B newId initId:String}
end
section
variable {X:Cx} {x n:Str} {Ch:Addr} {i:Nat} {body suite:List Stmt} {b₀ : Stmt} {tb:(St->XK)->TS} {ts:TS} {np hpos pos:Pos} {pins:List (Addr×Obj)} {σ:St} {H:Hp} {s:Shared} {e:Addr} {oe:Obj}
end
end L2
namespace L2
open PySem PySem.Spec PyProof.Rows PySem.W
section
variable {X:Cx} {pins:List (Addr×Obj)} {σ:St} {H H':Hp} {s:Shared}
end
section
variable {X:Cx} {pins:List (Addr×Obj)} {σ:St} {H:Hp} {s:Shared}
end
section
variable {prog:Program} {w:World} {A:Around} {E:Value->Shared->Prop} {s:Shared}
end
section
variable {X:Cx} {pins:List (Addr×Obj)} {σ:St} {H:Hp} {s:Shared}
end
section
variable {X:Cx}
end
theorem W7 {X:Cx} {k:Nat} {x:Str} {C:Addr} {ps:List Str} {sp:Sp} {p pos:Pos} (M:Ej X.prog X.w X.K X.mg X.base k x C ps sp) (hr:Room (k+1) X.A) (hg:Gl X x) (hdb:(x==("__debug__" : Str))=false:=by decide) :
  PE X (.Call (.Name x p) [] [] pos) (W0 C sp [] E0 IX):=by
 obtain⟨f,fd,mk,F,b,hm⟩:=M.ex;exact BA mk F hr hg hm b .nil Vh hdb
end L2
namespace CRL
open PySem L2
def GK (H H':Hp):Prop:=∀ t xs,H t=some (.tup xs)->H' t=some (.tup xs)
theorem Bo {H H':Hp} (s:Same H H'):GK H H':=fun t xs h=>s t _ h
theorem Dj {H:Hp} {l:Addr} {xs:List V} (h:H l=some (.lst xs)) (o:HO):GK H (upd H l o):=fun t zs z=>by
 rw[Ar (Iz z h (by intro e; cases e))];exact z
abbrev Tr:=Int×Int×Int
def Trs (H:Hp):List V->List Tr->Prop
 | [],[]=>True
 | x::xs,p::ps=>(∃ t,x = .ref t/\H t=some (.tup [.int p.1,.int p.2.1,.int p.2.2]))/\Trs H xs ps
 | _,_=>False
theorem Trs.len {H:Hp}:∀ {xs:List V} {ps:List Tr},Trs H xs ps->xs.length=ps.length
 | [],[],_=>rfl
 | [],_::_,h=>h.elim
 | _::_,[],h=>h.elim
 | x::xs,p::ps,h=>by rw[zAg,zAg,Trs.len h.2]
theorem Trs.mono {H H':Hp} (s:GK H H'):∀ {xs:List V} {ps:List Tr},Trs H xs ps->Trs H' xs ps
 | [],[],_=>trivial
 | [],_::_,h=>h.elim
 | _::_,[],h=>h.elim
 | x::xs,p::ps,⟨⟨t,e,h⟩,r⟩=>⟨⟨t,e,s _ _ h⟩,Trs.mono s r⟩
theorem Trs.get {H:Hp}:∀ {xs:List V} {ps:List Tr} {i:Nat} {x:V},Trs H xs ps->xs[i]?=some x->∃ t p,ps[i]?=some p/\x = .ref t/\H t=some (.tup [.int p.1,.int p.2.1,.int p.2.2])
 | [],[],_,_,_,e=>by simp at e
 | [],_::_,_,_,h,_=>h.elim
 | _::_,[],_,_,h,_=>h.elim
 | x::xs,p::ps,0,y,⟨⟨t,e,h⟩,r⟩,q=>by
  simp at q;subst q;exact⟨t,p,rfl,e,h⟩
 | x::xs,p::ps,i+1,y,⟨_,r⟩,q=>by
  obtain⟨t,p',h1,h2⟩:=Trs.get (i:=i) r (by simpa using q);exact⟨t,p',by simpa using h1,h2⟩
theorem Trs.snoc {H:Hp}:∀ {xs:List V} {ps:List Tr} {t:Addr} {a b c:Int},Trs H xs ps->H t=some (.tup [.int a,.int b,.int c])->Trs H (xs++[.ref t]) (ps++[(a,b,c)])
 | [],[],t,_,_,_,_,h=>⟨⟨t,rfl,h⟩,trivial⟩
 | [],_::_,_,_,_,_,r,_=>r.elim
 | _::_,[],_,_,_,_,r,_=>r.elim
 | x::xs,p::ps,_,_,_,_,⟨z,r⟩,h=>⟨z,Trs.snoc r h⟩
def OF (p:Tr):D:=.seq true [.at (.int p.1),.at (.int p.2.1),.at (.int p.2.2)]
theorem HI:∀ ps:List Tr,deps (ps.map OF)<=1
 | []=>by rw[zBW]; unfold deps; lia
 | p::ps=>by
  rw[zAH];unfold deps;have:=HI ps;have e:EZ (OF p)=1:=by
   unfold OF EZ deps deps deps deps EZ;rfl
  lia
end CRL
namespace L2
open PySem PySem.Spec PyProof.Rows PySem.W
section
variable {P:Program} {w:World} {K:zAa} {mg:Str->Option Value} {base:Heap} {k:Nat} {f:Addr} {fd:zCG} {ps:List Str} {sp sp1 sp2:Sp}
end
section
variable {X:Cx} {k:Nat} {f C:Addr} {fd:zCG} {ps:List Str} {sp:Sp} {x:Str} {p pos:Pos} {e:Expr} {es:List Expr} {t:TA} {W:St->XK} {dvs:List V} {ds:List Value}
end
theorem GG {X:Cx} {K:zAa} (hK:X.K=K:=by rfl):Jm X (compareOp .In) (NJ K false):=hK▸Nq
end L2
namespace CST
open PySem
abbrev Rs (xs:Array Nat):Prop:=xs.toList.Pairwise (· < ·)
theorem Q2 {xs:Array Nat} (h:Rs xs) {i k:Nat} (hik:i<k) (hk:k<xs.size):xs[i]'(by lia)<xs[k]:=by
 have:=zBe.mp h i k (by simpa using (by lia:i<xs.size)) (by simpa using hk) hik
 simpa using this
structure PD (xs:Array Nat) (j p:Nat):Prop where
 le:p<=xs.size
 lo:∀ i (h:i<xs.size),i<p->xs[i]<j
 hi:∀ i (h:i<xs.size),p<=i->j<=xs[i]
theorem Qs {xs:Array Nat} {j:Nat} (r:Rs xs):∀ (f lo hi:Nat),hi-lo<=f->lo<=hi->hi<=xs.size->(∀ i (h:i<xs.size),i<lo->xs[i]<j)->(∀ i (h:i<xs.size),hi<=i->j<=xs[i])->PD xs j (SetTable.below.go xs j f lo hi)
 | 0,lo,hi,h0,h1,h2,a,b=>by
  have e:lo=hi:=by omega
  subst e;unfold SetTable.below.go;exact⟨h2,a,b⟩
 | f+1,lo,hi,h0,h1,h2,a,b=>by
  unfold SetTable.below.go;by_cases c:lo<hi
  ·rw[if_pos c]
   have hm:(lo+hi)/2<xs.size:=by omega
   have e:xs.getD ((lo+hi)/2) j=xs[(lo+hi)/2]:=by simp [zCe,hm]
   dsimp only
   rw[e];by_cases d:xs[(lo+hi)/2]<j
   ·rw[if_pos d]
    refine Qs r f _ hi (by omega) (by omega) h2 (fun i h hi'=>?_) b;by_cases q:i=(lo+hi)/2
    ·subst q; exact d
    ·exact Nat.lt_trans (Q2 r (by omega) hm) d
   ·rw[if_neg d]
    refine Qs r f lo _ (by omega) (by omega) (by omega) a (fun i h hi'=>?_);by_cases q:i=(lo+hi)/2
    ·subst q; omega
    ·have:=Q2 r (i:=(lo+hi)/2) (k:=i) (by omega) h
     omega
  ·rw[if_neg c]
   have e:lo=hi:=by omega
   subst e;exact⟨h2,a,b⟩
theorem Sc {xs:Array Nat} {j:Nat} (r:Rs xs):PD xs j (SetTable.below xs j):=by
 unfold SetTable.below;exact Qs r _ _ _ (by lia) (zAD _) (zAl _) (fun i _ h=>absurd h (zBq _)) (fun i h h'=>absurd h' (by lia))
structure Kk (by_:Bool) (t:SetTable):Prop where
 rs:Rs t.place
 dm:t.dummies = #[]
 ld:by_=false->t.led=true
theorem Tc (b:Bool):Kk b (.fresh 0 0 (!b)):=⟨List.Pairwise.nil,rfl,fun h=>by rw[h]; rfl⟩
theorem Fz {b:Bool} {t:SetTable} (g:Kk b t) (n:Nat):Kk b (t.standIn n):=by
 refine⟨?_,rfl,g.ld⟩;show (Array.range n).toList.Pairwise (· < ·);rw[Array.toList_range];exact List.pairwise_lt_range
theorem F9 {b:Bool} {t:SetTable} (g:Kk b t) (p:Bool):Kk b { t with plain:=p }:=⟨g.rs,g.dm,g.ld⟩
theorem Za (j:Nat):SetTable.has #[] j=false:=by
 unfold SetTable.has;have:(#[]:Array Nat)[SetTable.below #[] j]?=none:=by simp
 rw[this];rfl
theorem M9 {t:SetTable} {j:Nat} (dm:t.dummies = #[]):t.slot j = .empty\/∃ i,t.slot j = .live i:=by
 unfold SetTable.slot
 dsimp only
 by_cases c:(t.place[SetTable.below t.place j]?==some j)=true
 ·rw[if_pos c]; exact .inr ⟨_,rfl⟩
 ·rw[if_neg c,dm,Za]
  exact .inl rfl
theorem M0 {t:SetTable} {j:Nat} (r:Rs t.place) (h:t.slot j = .empty):∀ i (hi:i<t.place.size),t.place[i]≠j:=fun i hi e=>by
 have b:=Sc (j:=j) r;have hp:SetTable.below t.place j<=i:=by
  rcases Nat.lt_or_ge i (SetTable.below t.place j) with z | z
  ·have:=b.lo i hi z; lia
  ·exact z
 have hps:SetTable.below t.place j<t.place.size:=by lia
 have e2:t.place[SetTable.below t.place j]=j:=by
  have h1:=b.hi _ hps (zAl _);rcases Nat.lt_or_eq_of_le hp with z | z
  ·have:=Q2 r z hi; lia
  ·have:t.place[SetTable.below t.place j]=t.place[i]:=by congr 1
   lia
 unfold SetTable.slot at h
 dsimp only at h
 have c:(t.place[SetTable.below t.place j]?==some j)=true:=by
  rw[zAZ hps,e2];simp
 rw[if_pos c] at h;cases h
theorem D4 {t:SetTable} {ha:Nat->Int} {h:Int} (dm:t.dummies = #[]):∀ (f:Nat) (p:SetTable.Probe) (j:Nat) (d:Option Nat),p.dummy=none->SetTable.probe.go t ha h f p=some (.empty j d)->d=none/\t.slot j = .empty
 | 0,p,j,d,_,e=>by unfold SetTable.probe.go at e; cases e
 | f+1,p,j,d,hp,e=>by
  unfold SetTable.probe.go at e;have adv:(t.advance p).dummy=none:=by
   unfold SetTable.advance
   split
   ·exact hp
   ·exact hp
  rcases M9 (t:=t) (j:=p.j) dm with z | ⟨i,z⟩
  ·rw[z] at e
   dsimp only at e
   injection e with e;injection e with e1 e2;subst e1;exact⟨e2▸hp,z⟩
  ·rw[z] at e
   dsimp only at e
   split at e
   ·injection e with e; cases e
   ·exact D4 dm f _ j d adv e
theorem JU {t:SetTable} {j:Nat} (r:Rs t.place) (h:∀ i (hi:i<t.place.size),t.place[i]≠j):Rs (t.put j).1.place:=by
 have b:=Sc (j:=j) r;show (SetTable.insertAt t.place (SetTable.below t.place j) j).toList.Pairwise (· < ·);rw[SetTable.toList_insertAt];have e1:∀ x∈t.place.toList.take (SetTable.below t.place j),x<j:=fun x hx=>by
  obtain⟨i,hi,ei⟩:=zAY hx;rw[List.getElem_take] at ei;have hi':i<SetTable.below t.place j/\i<t.place.size:=by
   rw[zAx,zAC] at hi; lia
  have:=b.lo i hi'.2 hi'.1;rw[<- ei]
  simpa using this
 have e2:∀ x∈t.place.toList.drop (SetTable.below t.place j),j<x:=fun x hx=>by
  obtain⟨i,hi,ei⟩:=zAY hx;rw[List.getElem_drop] at ei;have hi':SetTable.below t.place j+i<t.place.size:=by
   rw[zCA,zAC] at hi; lia
  have h1:=b.hi _ hi' (Nat.le_add_right _ _);have h2:=h _ hi';rw[<- ei];have:j<t.place[SetTable.below t.place j+i]:=by lia
  simpa using this
 refine List.pairwise_append.mpr ⟨r.sublist (List.take_sublist _ _),zAO.mpr ⟨e2,r.sublist (zBT _ _)⟩,fun a ha b' hb=>?_⟩;rcases zAn.mp hb with z | z
 ·rw[z]; exact e1 a ha
 ·exact Nat.lt_trans (e1 a ha) (e2 b' z)
theorem A7 {b:Bool} {t:SetTable} {j:Nat} (g:Kk b t) (h:t.slot j = .empty):Kk b (t.put j).1:=by
 refine⟨JU g.rs (M0 g.rs h),?_,g.ld⟩;show (if SetTable.has t.dummies j then _ else t.dummies) = #[];rw[g.dm,Za];rfl
set_option tactic.hygienic true in
theorem Zt {b:Bool} {t:SetTable} (g:Kk b t) (es:Array (Int×Value)) (h:Int) (x:Value):Kk b (layNew t es h x).2.1/\(layNew t es h x).2.2.1=false:=by
 unfold layNew;cases e:t.freeSlot h with
 | none=>exact⟨Fz g _,rfl⟩
 | some p=>
  obtain⟨sl,wd⟩:=p;unfold SetTable.freeSlot at e
  split at e
  ·rename_i j d hp
   injection e with e;injection e with e1 e2;obtain⟨hd,hs⟩:=D4 g.dm _ _ j d rfl hp;subst hd
   dsimp only at e1 e2 ⊢
   have e1':j=sl:=e1;subst e1';refine⟨?_,e2.symm⟩;unfold SetTable.orStandIn
   split
   ·exact A7 g hs
   ·exact Fz (A7 g hs) _
  ·cases e
theorem Sy (o:Nat->Option Nat):∀ l:List Nat,((l.filterMap fun j=>(o j).map (j,·)).map (·.1)).Sublist l
 | []=>List.Sublist.slnil
 | j::l=>by
  rw[zCk];cases e:o j with
  | none=>exact (Sy o l).cons j
  | some k=>exact (Sy o l).cons₂ j
theorem Tt {b:Bool} {t:SetTable} (g:Kk b t) (es:Array (Int×Value)) (wanted:Nat):Kk b (relayAll t es wanted).2.1:=by
 unfold relayAll;cases e:t.relaid (es.map (·.1)) wanted with
 | none=>exact Fz g _
 | some p=>
  obtain⟨t',order⟩:=p
  dsimp only
  split
  ·unfold SetTable.relaid SetTable.laid at e
   cases e2:SetTable.layClean (SetTable.sizeAbove wanted-1) (es.map (·.1)) with
   | none=>rw[e2] at e; cases e
   | some owner=>
    rw[e2] at e;have e3:=Option.some.inj e;injection e3 with e4 _;subst e4;refine⟨?_,rfl,g.ld⟩;show (List.toArray _).toList.Pairwise (· < ·);rw[List.toList_toArray];exact List.pairwise_lt_range.sublist (Sy _ _)
  ·exact Fz g _
section
variable {prog:Program} {w:World} {K:Type} [DecidableEq K] (knd:KeyKind prog w K)
def KG (e:Int×Value) (k:K):Prop:=knd.is k e.2=true/\e.1=knd.hash k/\e.2.scannable=true
def GSet (h:Heap) (a:Addr) (ks:List K):Prop:=∃ o es ep t,h.get? a=some o/\o.ExactSet/\o.data = .set es ep t/\Paired (KG knd) es.toList ks/\ks.Nodup/\es.size<scanBound/\t.fits es.size=true/\Kk (w.params.followText "set-order") t
variable {knd}
variable {A:Around} {E:Value->Shared->Prop} {s:Shared}
theorem Ot {α β:Type} {F:α->β->Prop}:∀ {l l':List α} {ks:List β},l'.Perm l->Paired F l ks->∃ ks',ks'.Perm ks/\Paired F l' ks':=by
 intro l l' ks p;have q:=p.symm;clear p
 induction q generalizing ks with
 | nil=>intro h; exact⟨ks,List.Perm.refl _,h⟩
 | cons x _ ih=>
  intro h;cases h with
  | cons r t=>
   obtain⟨ks',p',h'⟩:=ih t;exact⟨_,p'.cons _,.cons r h'⟩
 | swap x y l=>
  intro h;cases h with
  | cons r t=>
   cases t with
   | cons r2 t2=>exact⟨_,List.Perm.swap _ _ _,.cons r2 (.cons r t2)⟩
 | trans _ _ ih1 ih2=>
  intro h;obtain⟨k1,p1,h1⟩:=ih1 h;obtain⟨k2,p2,h2⟩:=ih2 h1;exact⟨k2,p2.trans p1,h2⟩
theorem Oy {α β:Type} {F:α->β->Prop} {a:α} {b:β} (r:F a b):∀ {l:List α} {ks:List β},Paired F l ks->Paired F (l++[a]) (ks++[b])
 | _,_,.nil=>.cons r .nil
 | _,_,.cons q t=>.cons q (Oy r t)
theorem Lv {α β:Type} {F:α->β->Prop}:∀ {l:List α} {ks:List β},Paired F l ks->∀ a∈l,∃ b∈ks,F a b
 | _,_,.nil,_,h=>nomatch h
 | _,_,.cons q t,a,h=>by
  rcases zAn.mp h with z | z
  ·subst z; exact⟨_,zAj,q⟩
  ·obtain⟨b,hb,r⟩:=Lv t a z
   exact⟨b,zAf _ hb,r⟩
theorem Ou {α β:Type} {F:α->β->Prop}:∀ {l:List α} {ks:List β},Paired F l ks->∀ b∈ks,∃ a∈l,F a b
 | _,_,.nil,_,h=>nomatch h
 | _,_,.cons q t,a,h=>by
  rcases zAn.mp h with z | z
  ·subst z; exact⟨_,zAj,q⟩
  ·obtain⟨b,hb,r⟩:=Ou t a z
   exact⟨b,zAf _ hb,r⟩
theorem MH {l:List (Int×Value)} {ks:List K} (h:Paired (KG knd) l ks):ElemsOf knd l:=fun e he=>by
 obtain⟨k,_,r1,r2,r3⟩:=Lv h e he;exact⟨⟨k,r1,r2⟩,r3⟩
theorem D6 {l:List (Int×Value)} {ks:List K} {k:K} (h:Paired (KG knd) l ks):(l.findIdx? fun e=>knd.is k e.2)=none↔k∉ks:=by
 rw[List.findIdx?_eq_none_iff];constructor
 ·intro z hk
  obtain⟨e,he,r⟩:=Ou h k hk;have:=z e he;rw[r.1] at this;cases this
 ·intro z e he
  obtain⟨k',hk',r⟩:=Lv h e he;cases c:knd.is k e.2 with
  | false=>rfl
  | true=>exact absurd (knd.inj _ _ _ c r.1▸hk') z
theorem stored {h:Heap} {a:Addr} {o:Obj} {es es':Array (Int×Value)} {ep:Nat} {t t':SetTable} {ks:List K} (ho:h.get? a=some o) (hex:o.ExactSet) (hd:o.data = .set es ep t) (hp:Paired (KG knd) es'.toList ks) (nd:ks.Nodup) (hb:es'.size<scanBound) (hf:t'.fits es'.size=true)
  (g:Kk (w.params.followText "set-order") t'):(h.update a (Obj.putSet es' t')).get? a=some { o with data:=.set es' (ep+1) t' }/\GSet knd (h.update a (Obj.putSet es' t')) a ks:=by
 have hg:(h.update a (Obj.putSet es' t')).get? a=some { o with data:=.set es' (ep+1) t' }:=by
  have q:=zBX (Obj.putSet es' t') ho (by rw[putSet_of es' t' hd]; rfl)
  rwa [putSet_of es' t' hd] at q
 exact⟨hg,_,es',ep+1,t',hg,hex,rfl,hp,nd,hb,hf,g⟩
theorem Yy {a:Addr} {o:Obj} {es es1:Array (Int×Value)} {ep:Nat} {t t2:SetTable} {ks1:List K} (ho:s.heap.get? a=some o) (hex:o.ExactSet) (hd:o.data = .set es ep t) (hp:Paired (KG knd) es1.toList ks1) (nd:ks1.Nodup) (hb:es1.size<scanBound) (hf:t2.fits es1.size=true)
  (g:Kk (w.params.followText "set-order") t2) {wd:Bool} {gw:Bool->Sem Unit} (hgw:∀ (b:Bool) (s₁ : Shared) (Q':Unit->Shared->Prop),Q' () s₁ -> wpAny (model prog w) A (gw b) Q' E s₁) {R:Option Bool->Shared->Prop}
  (h:∀ h' ks',zAU a s.heap h'->GSet knd h' a ks'->ks'.Perm ks1->R (some true) { s with heap:=h' }) :
  wpAny (model prog w) A (do
   storeSet a es1 t2
   if (!wd&&t2.tooFull)=true then do
    gw (relayAll t2 es1 (SetTable.grown es1.size)).2.2
    storeSet a (relayAll t2 es1 (SetTable.grown es1.size)).1 (relayAll t2 es1 (SetTable.grown es1.size)).2.1
    pure (some true)
   else pure (some true)) R E s:=by
 obtain⟨ho1,G1⟩:=stored (knd:=knd) ho hex hd hp nd hb hf g;have sb:=zAU.update s.heap a (Obj.putSet es1 t2);refine zCC (wpAny_storeSet_of ho hd ?_ (fits_of_scanBound hb));by_cases c:(!wd&&t2.tooFull)=true
 ·rw[if_pos c]
  have p2:=relayAll_perm t2 es1 (SetTable.grown es1.size);have f2:=relayAll_fits t2 es1 (SetTable.grown es1.size);have g2:=Tt g es1 (SetTable.grown es1.size);generalize relayAll t2 es1 (SetTable.grown es1.size)=Y at p2 f2 g2;obtain⟨es2,t3,gv⟩:=Y
  dsimp only at p2 f2 g2
  have z2:es2.size=es1.size:=by rw[<- zAC,p2.length_eq,zAC]
  obtain⟨ks2,q2,hp2⟩:=Ot p2 hp;refine zCC (hgw _ _ _ (zCC (wpAny_storeSet_of ho1 rfl ?_ (fits_of_scanBound (by rw[z2]; exact hb)))));obtain⟨_,G2⟩:=stored (knd:=knd) ho1 hex rfl hp2 (q2.nodup_iff.mpr nd) (by rw[z2]; exact hb) f2 g2;exact zCD (h _ ks2 (sb.trans (zAU.update _ a _)) G2 q2)
 ·rw[if_neg c]
  exact zCD (h _ ks1 sb G1 (List.Perm.refl _))
theorem IC {a:Addr} {ks:List K} {k:K} {x:Value} {Q:Bool->Shared->Prop} (hkey:knd.is k x=true) (hsc:x.scannable=true) (hS:GSet knd s.heap a ks) (hroom:ks.length+1<scanBound)
  (h:∀ b h' ks',zAU a s.heap h'->GSet knd h' a ks'->ks'.Perm (if k∈ks then ks else ks++[k])->Q b { s with heap:=h' }) :
  wpAny (model prog w) A (setAddHashed a x (knd.hash k)) Q E s:=by
 obtain⟨o,es,ep,t,ho,hex,hd,hp,nd,hb,hf,g⟩:=id hS;have hel:=MH hp;have lk:es.size=ks.length:=by rw[<- zAC]; exact Paired.length hp
 unfold setAddHashed setAddHashedIn;refine wpAny_holding (zCC (wpAny_setState_of ho hd hf ?_))
 dsimp only
 rw[byScan_of hsc hb hel];simp only [↓reduceIte];unfold setAddByScan;refine zCC (zCC (wpAny_rule (zCC (wpAny_setScan_of hkey ho hd hf hel ?_))));cases hr:List.findIdx? (fun e=>knd.is k e.2) es.toList with
 | some j=>
  have hk:k∈ks:=Classical.byContradiction fun z=>by rw[(D6 hp).mpr z] at hr; cases hr
  dsimp only
  refine zCD (zCD ?_);have e:s={ s with heap:=s.heap }:=by cases s; rfl
  rw[e];exact h false s.heap ks (zAU.refl a s.heap) hS (by rw[if_pos hk])
 | none=>
  have hk:k∉ks:=(D6 hp).mp hr
  dsimp only
  have p1:=layNew_perm t es (knd.hash k) x;have f1:=layNew_fits t es (knd.hash k) x;have g1:=(Zt g es (knd.hash k) x).1;generalize layNew t es (knd.hash k) x=Y at p1 f1 g1 ⊢;obtain⟨es1,t1,wd,gv⟩:=Y
  dsimp only at p1 f1 g1 ⊢
  rw[Array.toList_push] at p1;obtain⟨ks1,q1,hp1⟩:=Ot p1 (Oy (show KG knd (knd.hash k,x) k from ⟨hkey,rfl,hsc⟩) hp);have nd1:ks1.Nodup:=q1.nodup_iff.mpr (zBU.mpr ⟨nd,by simp,fun a ha b hb'=>by rw[zAk] at hb'; subst hb'; rintro rfl; exact hk ha⟩);have b1:es1.size<scanBound:=by rw[<- zAC,p1.length_eq,zAo,zAC,lk]; exact hroom
  have fin:∀ h' ks',zAU a s.heap h'->GSet knd h' a ks'->ks'.Perm ks1->Q true { s with heap:=h' }:=fun h' ks' sb G p=>h true h' ks' sb G (by rw[if_neg hk]; exact p.trans q1);have gw:∀ (b:Bool) (s₁ : Shared) (Q':Unit->Shared->Prop),Q' () s₁ -> wpAny (model prog w) A (match b with | true=>rule "set.scan.the-table-gave-way" | false=>pure ()) Q' E s₁ :=
   fun b s₁ Q' hq=>by cases b <;> first | exact zCD hq | exact wpAny_rule hq
  refine zCC (gw _ _ _ ?_)
  split
  ·refine zCC ?_
   rw[hashByValue_scannable 8 hsc];refine zCD ?_;refine Yy (ks1:=ks1) (knd:=knd) ho hex hd hp1 nd1 b1 ?_ ?_ gw fun h' ks' sb G p=>?_
   ·split
    ·exact f1
    ·exact SetTable.fits_plain_off f1
   ·split
    ·exact g1
    ·exact F9 g1 _
   ·exact zCD (fin h' ks' sb G p)
  ·refine zCC (zCD ?_)
   simp only [↓reduceIte];exact Yy (ks1:=ks1) (knd:=knd) ho hex hd hp1 nd1 b1 f1 g1 gw fun h' ks' sb G p=>zCD (fin h' ks' sb G p)
end
theorem slot_sin:Slot "set_iterator" "__next__" "set_iterator.__next__" :=
 .of (owner := "set_iterator") (n := "__next__") (by rw[typeLookup_type,builtinLookup_eq_fast]; kernel_rfl) (by decide +kernel) (by decide +kernel) (by decide +kernel) (by first | exact .inl (by decide +kernel) | exact .inr (by decide +kernel)) (by rw[isSubtype_type]; kernel_rfl)
theorem Kg:entryFor table "set_iterator.__next__" = some Builtin.«set_iterator.__next__» := entryFor_of_fast (by kernel_rfl)
theorem Mh (a:Value):argsOk "set_iterator.__next__" ⟨[a],[]⟩:=by unfold argsOk; kernel_rfl
theorem A3:Slot "set_iterator" "__iter__" "set_iterator.__iter__" :=
 .of (owner := "set_iterator") (n := "__iter__") (by rw[typeLookup_type,builtinLookup_eq_fast]; kernel_rfl) (by decide +kernel) (by decide +kernel) (by decide +kernel) (by first | exact .inl (by decide +kernel) | exact .inr (by decide +kernel)) (by rw[isSubtype_type]; kernel_rfl)
theorem ET (a:Value):argsOk "set_iterator.__iter__" ⟨[a],[]⟩:=by unfold argsOk; kernel_rfl
theorem AA:entryFor table "set_iterator.__iter__" = some Builtin.«dict_keyiterator.__iter__» :=
 entryFor_alias (id' := "dict_keyiterator.__iter__") (by kernel_rfl) rfl (by decide +kernel) (by kernel_rfl)
theorem BX:entryFor table "set.__iter__" = some Builtin.«frozenset.__iter__» :=
 entryFor_alias (id' := "frozenset.__iter__") (by kernel_rfl) rfl (by decide +kernel) (by kernel_rfl)
def P2 (h:Heap) (I:Addr) (first:Value) (i:Nat) (a:Addr) (n ep:Nat):Prop:=h.get? I=some { cls:=.type "set_iterator",dict:=none,data:=.fields #[first,rawInt i,.ref a,rawInt n,rawInt ep],slots := #[] }
section
variable {prog:Program} {w:World} {A:Around} {E:Value->Shared->Prop} {s:Shared} {I a:Addr} {i n ep slot nx:Nat} {x:Value} {o:Obj} {es:Array (Int×Value)} {t:SetTable} {Q:Option Value->Shared->Prop}
theorem B2 (hit:P2 s.heap I (rawInt slot) i a n ep) (ho:s.heap.get? a=some o) (hd:o.data = .set es ep t) (hf:t.fits es.size=true) (hn:es.size=n)
  (hx:∀ (A':Around) (Q':Option (Value×Nat)->Shared->Prop) (E':Value->Shared->Prop),Q' (some (x,nx)) s->wpAny (model prog w) A' (setNext a slot i ep) Q' E' s)
  (h:∀ h',P2 h' I (rawInt nx) (i+1) a n ep->zAU I s.heap h'->Q (some x) { s with heap:=h' }):wpAny (model prog w) A (pyNext (.ref I)) Q E s:=by
 have ty:s.TypeIs (.ref I) "set_iterator" := ⟨_,hit,rfl⟩;unfold pyNext;refine zCC (wpAny_attempt (wpAny_callSpecial?_slot (name:=Str.ofString "__next__") ty slot_sin (wpAny_call_entry slot_sin ty Kg ?_ (Mh _))));unfold Builtin.«set_iterator.__next__»;refine zCC (m:=slotArgs "__next__" 0 _) (zCD (zCC (wpAny_fieldsOf hit rfl ?_)))
 dsimp only [rawInt]
 refine zCC (wpAny_setEntries_of ho hd hf ?_);rw[hn];rw[if_neg (by simp)];refine zCC (hx _ _ _ ?_)
 dsimp only
 refine zCC (wpAny_setField_rec hit (by simp) fun h1 e1 sb1=>?_);refine zCC (wpAny_setField_rec e1 (by simp) fun h2 e2 sb2=>?_);refine zCD ⟨_,rfl,zCD (h h2 ?_ (sb1.trans sb2))⟩;unfold P2;rw[e2];simp [rawInt]
end
theorem Lc {α:Type}:∀ {l:List α} {i:Nat} (h:i<l.length),(l[i]::l.eraseIdx i).Perm l
 | [],_,h=>absurd h (zBq _)
 | x::l,0,_=>List.Perm.refl _
 | x::l,i+1,h=>(List.Perm.swap x _ _).trans ((Lc (l:=l) (i:=i) (by simpa using h)).cons x)
theorem R9 {α:Type} (f:Nat->Nat):∀ (m k:Nat) (l:List α) (out:Array α),l.length=m->(pickOrder.go f m k l out).toList.Perm (out.toList++l)
 | 0,k,l,out,h=>by
  have e:l=[]:=List.length_eq_zero_iff.mp h;subst e;unfold pickOrder.go;rw[zAN]
 | m+1,k,l,out,h=>by
  have hl:f k%l.length<l.length:=Nat.mod_lt _ (by lia);unfold pickOrder.go;rw[zAe hl]
  dsimp only
  refine (R9 f m (k+1) _ _ (by rw[List.length_eraseIdx,if_pos hl]; lia)).trans ?_;rw[Array.toList_push,zBE];exact (Lc hl).append_left _
theorem Ol {α:Type} (f:Nat->Nat) (xs:Array α):(pickOrder f xs).toList.Perm xs.toList:=by
 unfold pickOrder;exact (R9 f xs.size 0 xs.toList #[] zAC).trans (by simp)
def Iq (p:Array Nat) (i:Nat):Nat:=if i=0 then 0 else p.getD (i-1) 0+1
theorem Rc {p:Array Nat} (r:Rs p) {i:Nat} (hi:i<=p.size):SetTable.below p (Iq p i)=i:=by
 have b:=Sc (j:=Iq p i) r;unfold Iq at b ⊢;by_cases c:i=0
 ·rw[if_pos c] at b ⊢
  rw[c];rcases Nat.eq_zero_or_pos (SetTable.below p 0) with z | z
  ·exact z
  ·have h0:0<p.size:=zAK z b.le
   exact absurd (b.lo 0 h0 z) (zBq _)
 ·rw[if_neg c] at b ⊢
  have hp:i-1<p.size:=by lia
  have e:p.getD (i-1) 0=p[i-1]:=by simp [zCe,hp]
  rw[e] at b ⊢;rcases zBD (SetTable.below p (p[i-1]+1)) i with z | z | z
  ·have:=b.hi (i-1) hp (by lia)
   lia
  ·exact z
  ·have hs:i<p.size:=zAK z b.le
   have h1:=b.lo i hs z;have h2:=Q2 r (i:=i-1) (k:=i) (by lia) hs
   lia
section
variable {prog:Program} {w:World} {A:Around} {E:Value->Shared->Prop} {s:Shared} {a:Addr} {o:Obj} {es:Array (Int×Value)} {ep:Nat} {t:SetTable}
theorem Qi {Q:Bool->Shared->Prop} (h:Q (w.params.followText "set-order") s):wpAny (model prog w) A setsByText Q E s:=by
 unfold setsByText;exact zCC (wpAny_askSetting (zCD h))
theorem Vq {slot i:Nat} {Q:Option (Value×Nat)->Shared->Prop} (bt:w.params.followText "set-order" = true) (ho:s.heap.get? a=some o) (hd:o.data = .set es ep t) (hf:t.fits es.size=true)
  (h:Q (((pickOrder (w.params.setOrder a ep) es)[i]?).map fun e=>(e.2,slot)) s):wpAny (model prog w) A (setNext a slot i ep) Q E s:=by
 unfold setNext;refine zCC (wpAny_setState_of ho hd hf ?_)
 dsimp only
 refine zCC (Qi ?_);rw[bt,if_pos rfl,if_neg (by simp)];refine zCC ?_;unfold setWalk;refine zCC (wpAny_setState_of ho hd hf ?_)
 dsimp only
 refine zCC (Qi ?_);rw[bt,if_pos rfl];exact zCC (wpAny_askSetting (zCD (zCD h)))
theorem Qp {slot i:Nat} {Q:Option (Value×Nat)->Shared->Prop} (bt:w.params.followText "set-order" = false) (ho:s.heap.get? a=some o) (hd:o.data = .set es ep t) (hf:t.fits es.size=true) (hl:t.led=true) (hp:(!t.plain&&decide (es.size>1))=false)
  (h:Q (match es[SetTable.below t.place slot]?,t.place[SetTable.below t.place slot]? with
   | some (_,x),some j=>some (x,j+1)
   | _,_=>none) s):wpAny (model prog w) A (setNext a slot i ep) Q E s:=by
 unfold setNext;refine zCC (wpAny_setState_of ho hd hf ?_)
 dsimp only
 refine zCC (Qi ?_);rw[bt,if_neg zAm];show wpAny _ _ (if (!t.plain&&decide (es.size>1))=true then _ else _) _ _ _;rw[hp,if_neg zAm];refine zCC ?_;show wpAny _ _ (if (!t.led && !es.isEmpty)=true then unsupported "set:maker-not-led" else pure ()) _ _ _;rw[hl,if_neg (by simp)];exact zCD (zCD h)
theorem I9 {place:Nat} {k:Int} {x:Value} {Q:Value->Shared->Prop} (ho:s.heap.get? a=some o) (hd:o.data = .set es ep t) (hf:t.fits es.size=true) (hx:es[place]?=some (k,x)) (h:Q x s):wpAny (model prog w) A (setNextDrawn a place ep) Q E s:=by
 unfold setNextDrawn;refine zCC (wpAny_setState_of ho hd hf ?_)
 dsimp only
 rw[if_neg (by simp),hx];exact zCD h
theorem G3 {src:Source} {n:Nat} {Q:Nat->Shared->Prop} (hn:n≠0) (h:∀ i,i<n->Q i { s with drawn:=s.drawn.bump src }):wpAny (model prog w) A (choose src n) Q E s:=fun _ _ _=>by
 unfold choose;rw[Sem.wp_choose];exact⟨hn,h _ (Nat.mod_lt _ (by lia))⟩
theorem Rx {α:Type}:∀ (n:Nat) (xs:List α) (s:Shared) (Q:List α->Shared->Prop),xs.length=n->(∀ ys d,ys.Perm xs->Q ys { s with drawn:=d })->wpAny (model prog w) A (drawOrder n xs) Q E s
 | 0,xs,s,Q,hl,h=>by
  have e:xs=[]:=List.length_eq_zero_iff.mp hl;subst e;unfold drawOrder;exact zCD (h [] s.drawn (List.Perm.refl _))
 | n+1,xs,s,Q,hl,h=>by
  cases xs with
  | nil=>simp at hl
  | cons x xs=>
   unfold drawOrder;refine zCC (G3 (by simp) fun i hi=>?_);rw[zAe hi]
   dsimp only
   refine zCC (Rx n _ _ _ (by rw[List.length_eraseIdx,if_pos hi]; lia) fun ys d p=>zCD ?_);exact h _ d ((p.cons _).trans (Lc hi))
end
section
variable {prog:Program} {w:World} {A:Around} {E:Value->Shared->Prop} {s:Shared} {I a T:Addr} {i n ep slot:Nat} {o:Obj} {es:Array (Int×Value)} {t:SetTable} {Q:Option Value->Shared->Prop}
theorem EB {places:Array Value} {cn:Nat} {pl:Nat} {tk:Tok} {k:Int} {x:Value} (hit:P2 s.heap I (.ref T) i a n ep) (hT:s.heap.get? T=some { cls:=.type "tuple",dict:=none,data:=.seq places cn,slots := #[] }) (ho:s.heap.get? a=some o) (hd:o.data = .set es ep t) (hf:t.fits es.size=true) (hn:es.size=n)
  (hp:places[i]?=some (.int (pl:Int) tk)) (hx:es[pl]?=some (k,x))
  (h:∀ h',P2 h' I (.ref T) (i+1) a n ep->zAU I s.heap h'->Q (some x) { s with heap:=h' }):wpAny (model prog w) A (pyNext (.ref I)) Q E s:=by
 have ty:s.TypeIs (.ref I) "set_iterator" := ⟨_,hit,rfl⟩;unfold pyNext;refine zCC (wpAny_attempt (wpAny_callSpecial?_slot (name:=Str.ofString "__next__") ty slot_sin (wpAny_call_entry slot_sin ty Kg ?_ (Mh _))));unfold Builtin.«set_iterator.__next__»;refine zCC (m:=slotArgs "__next__" 0 _) (zCD (zCC (wpAny_fieldsOf hit rfl ?_)))
 dsimp only [rawInt]
 refine zCC (wpAny_setEntries_of ho hd hf ?_);rw[hn,if_neg (by simp)];refine zCC (wpAny_seqItems hT rfl ?_)
 dsimp only
 rw[show ((i:Int)).toNat=i from rfl,hp]
 dsimp only
 refine zCC (I9 ho hd hf (place:=pl) hx ?_);refine zCC (wpAny_setField_rec hit (by simp) fun h1 e1 sb1=>?_);refine zCD ⟨_,rfl,zCD (h h1 ?_ sb1)⟩;unfold P2;rw[e1];simp [rawInt]
theorem Rj {α:Type} {Q:α->Shared->Prop} (hh:A.handled=none) (h:∀ h' e,(∀ b o,s.heap.get? b=some o->h'.get? b=some o)->Shared.TypeIs { s with heap:=h' } e "StopIteration" -> E e { s with heap:=h' }):wpAny (model prog w) A (newExc (.type "StopIteration") [] >>= raiseNew) Q E s:=by
 refine zCC ?_;simp only [newExc,newTuple];refine zCC (wpAny_newObj_type ?_ (by size_fits));refine zCC (m:=firstArgMember _ _) (wpAny_of_eq (a:=Value.none) (by first | rfl | (simp only [firstArgMember]; rfl)) ?_);refine wpAny_newObj_type ?_ (by size_fits);refine wpAny_raiseNew_none hh (h _ _ (fun b ob e=>zAd _ (zAd _ e)) ⟨_,zAu _ rfl,rfl⟩)
theorem Q9 (hh:A.handled=none) (hit:P2 s.heap I (rawInt slot) i a n ep) (ho:s.heap.get? a=some o) (hd:o.data = .set es ep t) (hf:t.fits es.size=true) (hn:es.size=n)
  (hx:∀ (A':Around) (Q':Option (Value×Nat)->Shared->Prop) (E':Value->Shared->Prop),Q' none s->wpAny (model prog w) A' (setNext a slot i ep) Q' E' s)
  (h:∀ h',Heap.ExtBut I s.heap h'->Q none { s with heap:=h' }):wpAny (model prog w) A (pyNext (.ref I)) Q E s:=by
 have ty:s.TypeIs (.ref I) "set_iterator" := ⟨_,hit,rfl⟩;unfold pyNext;refine zCC (wpAny_attempt (wpAny_callSpecial?_slot (name:=Str.ofString "__next__") ty slot_sin (wpAny_call_entry slot_sin ty Kg ?_ (Mh _))));unfold Builtin.«set_iterator.__next__»;refine zCC (m:=slotArgs "__next__" 0 _) (zCD (zCC (wpAny_fieldsOf hit rfl ?_)))
 dsimp only [rawInt]
 refine zCC (wpAny_setEntries_of ho hd hf ?_);rw[hn,if_neg (by simp)];refine zCC (hx _ _ _ ?_)
 dsimp only
 refine zCC (wpAny_setField_rec hit (by simp) fun h1 e1 sb1=>?_);refine Rj (s:={ s with heap:=h1 }) (by exact hh) fun h2 e k2 te=>?_
 dsimp only
 refine zCC (wpAny_isInstance (T := "StopIteration") (b:=true) te isSubtype_stop ?_);exact zCD (h h2 (fun b ob nb e'=>k2 b ob ((sb1.2 b nb).trans e')))
theorem GU {places:Array Value} {cn:Nat} (hh:A.handled=none) (hit:P2 s.heap I (.ref T) i a n ep) (hT:s.heap.get? T=some { cls:=.type "tuple",dict:=none,data:=.seq places cn,slots := #[] }) (ho:s.heap.get? a=some o) (hd:o.data = .set es ep t) (hf:t.fits es.size=true) (hn:es.size=n) (hp:places[i]?=none)
  (h:∀ h',Heap.ExtBut I s.heap h'->Q none { s with heap:=h' }):wpAny (model prog w) A (pyNext (.ref I)) Q E s:=by
 have ty:s.TypeIs (.ref I) "set_iterator" := ⟨_,hit,rfl⟩;unfold pyNext;refine zCC (wpAny_attempt (wpAny_callSpecial?_slot (name:=Str.ofString "__next__") ty slot_sin (wpAny_call_entry slot_sin ty Kg ?_ (Mh _))));unfold Builtin.«set_iterator.__next__»;refine zCC (m:=slotArgs "__next__" 0 _) (zCD (zCC (wpAny_fieldsOf hit rfl ?_)))
 dsimp only [rawInt]
 refine zCC (wpAny_setEntries_of ho hd hf ?_);rw[hn,if_neg (by simp)];refine zCC (wpAny_seqItems hT rfl ?_)
 dsimp only
 rw[show ((i:Int)).toNat=i from rfl,hp]
 dsimp only
 refine zCC (wpAny_setField_rec hit (by simp) fun h1 e1 sb1=>?_);refine zCC (wpAny_setField_rec e1 (by simp) fun h2 e2 sb2=>?_);refine Rj (s:={ s with heap:=h2 }) (by exact hh) fun h3 e k3 te=>?_
 dsimp only
 refine zCC (wpAny_isInstance (T := "StopIteration") (b:=true) te isSubtype_stop ?_);exact zCD (h h3 (fun b ob nb e'=>k3 b ob ((sb2.2 b nb).trans ((sb1.2 b nb).trans e'))))
theorem Yg {first:Value} {Q:Value->Shared->Prop} (hit:P2 s.heap I first i a n ep) (h:Q (.ref I) s):wpAny (model prog w) A (pyIter (.ref I)) Q E s:=by
 have ty:s.TypeIs (.ref I) "set_iterator" := ⟨_,hit,rfl⟩;refine wpAny_pyIter_slot ty A3 (wpAny_call_entry A3 ty AA ?_ (ET _));unfold Builtin.«dict_keyiterator.__iter__»;exact zCC (m:=slotArgs "__iter__" 0 _) (zCD (zCD ⟨_,rfl, "set_iterator",_,ty,slot_sin.lookup,h⟩))
theorem Zu:Slot "set" "__iter__" "set.__iter__" :=
 .of (owner := "set") (n := "__iter__") (by rw[typeLookup_type,builtinLookup_eq_fast]; kernel_rfl) (by decide +kernel) (by decide +kernel) (by decide +kernel) (by first | exact .inl (by decide +kernel) | exact .inr (by decide +kernel)) (by rw[isSubtype_type]; kernel_rfl)
theorem BO (a:Value):argsOk "set.__iter__" ⟨[a],[]⟩:=by unfold argsOk; kernel_rfl
def OE (w:World) (h0 h:Heap) (I a:Addr) (es:Array (Int×Value)) (ep:Nat) (t:SetTable):Prop:=
 (P2 h I (rawInt 0) 0 a es.size ep/\(w.params.followText "set-order" = true\/(w.params.followText "set-order" = false/\(!t.plain&&decide (es.size>1))=false))) \/
 ∃ T ps,P2 h I (.ref T) 0 a es.size ep/\h.get? T=some { cls:=.type "tuple",dict:=none,data:=.seq ((ps:List Nat).map fun i:Nat=>rawInt i).toArray 0,slots := #[] }/\ps.Perm (zAM es.size)/\T≠I/\h0.get? T=none
theorem DJ {Q:Value->Shared->Prop} (hc:o.cls = .type "set") (ho:s.heap.get? a=some o) (hd:o.data = .set es ep t) (hf:t.fits es.size=true) (hz:es.size<=sizeLine)
  (h:∀ h' d I,OE w s.heap h' I a es ep t->(∀ b ob,s.heap.get? b=some ob->h'.get? b=some ob)->s.heap.get? I=none->Q (.ref I) { s with heap:=h',drawn:=d }):wpAny (model prog w) A (pyIter (.ref a)) Q E s:=by
 have ty:s.TypeIs (.ref a) "set" := ⟨_,ho,hc⟩;refine wpAny_pyIter_slot ty Zu (wpAny_call_entry Zu ty BX ?_ (BO _));unfold Builtin.«frozenset.__iter__»;refine zCC (m:=Builtin.Frozenset.slot0 "__iter__" _) (zCD ?_);refine zCC (zCC (wpAny_setEntries_of ho hd hf (zCD ?_)));refine zCC ?_;unfold setDrawn;refine zCC (wpAny_setState_of ho hd hf ?_)
 dsimp only
 refine zCC (Qi (zCD ?_));show wpAny _ _ (if (!(w.params.followText "set-order")&&(!t.plain&&decide (es.size>1)))=true then _ else _) _ _ _;have last:∀ (first:Value) (h1:Heap) (d1:Drawn),(∀ b ob,s.heap.get? b=some ob->h1.get? b=some ob)->s.heap.objs.size<=h1.objs.size->(∀ h2,(∀ b ob,h1.get? b=some ob->h2.get? b=some ob)->P2 h2 h1.objs.size first 0 a es.size ep->OE w s.heap h2 h1.objs.size a es ep t) ->
   wpAny (model prog w) A.in1 (do
    let x <- setEpoch a
    let y <- newFields "set_iterator" [first,rawInt 0,Value.ref a,rawInt ↑es.size,rawInt ↑x]
    ret y) (fun fin s'=>∃ v,fin = .done (.ret v)/\∃ T' r,s'.TypeIs v T'/\typeLookup (Value.type T') (Str.ofString "__next__")=pure (some r)/\Q v s') E { s with heap:=h1,drawn:=d1 }:=fun first h1 d1 k1 le bg=>by
  refine zCC ?_;unfold setEpoch;refine zCC (wpAny_setState_of (s:={ s with heap:=h1,drawn:=d1 }) (k1 _ _ ho) hd hf (zCD ?_));refine zCC (wpAny_newObj_type (zCD ⟨_,rfl, "set_iterator",_,⟨_,zAu _ rfl,rfl⟩,slot_sin.lookup,?_⟩));refine h _ d1 h1.objs.size (bg _ (fun b ob e=>zAd _ e) (zAu _ rfl)) (fun b ob e=>zAd _ (k1 b ob e)) ?_;cases z:s.heap.get? h1.objs.size with
  | none=>rfl
  | some ob=>
   have:=zAp z;exact absurd le (Nat.not_le.mpr this)
 by_cases c:(!(w.params.followText "set-order")&&(!t.plain&&decide (es.size>1)))=true
 ·rw[if_pos c]
  refine zCC (Rx _ _ _ _ zAQ fun ps d p=>?_);refine zCC (wpAny_newTuple ?_ (by rw[zAb,p.length_eq,zAQ]; exact hz));refine last _ _ d (fun b ob e=>zAd _ e) (by rw[zBn]; exact zBl _) fun h2 k2 it=>.inr ⟨s.heap.objs.size,ps,it,k2 _ _ (zAu _ rfl),p,?_,?_⟩
  ·show s.heap.objs.size≠(s.heap.push _).objs.size
   rw[zBn];exact zAw (zBx _)
  ·cases z:s.heap.get? s.heap.objs.size with
   | none=>rfl
   | some ob=>exact absurd (zAp z) (zBm _)
 ·rw[if_neg c]
  refine zCC (zCD ?_);have e:s={ s with heap:=s.heap,drawn:=s.drawn }:=by cases s; rfl
  rw[e];refine last _ s.heap s.drawn (fun _ _ z=>z) (zAl _) fun h2 k2 it=>.inl ⟨it,?_⟩;cases b:w.params.followText "set-order" with
  | true=>exact .inl rfl
  | false=>
   rw[b] at c;exact .inr ⟨rfl,by simpa using c⟩
end
section
variable {prog:Program} {w:World} {A:Around} {E:Value->Shared->Prop} {I a:Addr} {es:Array (Int×Value)} {ep:Nat} {t:SetTable}
def R7 (h:Heap) (a:Addr) (es:Array (Int×Value)) (ep:Nat) (t:SetTable):Prop:=∃ o,h.get? a=some o/\o.data = .set es ep t
theorem Rb (hf:t.fits es.size=true):t.place.size=es.size:=by
 unfold SetTable.fits at hf;simp at hf;exact hf.1
theorem K0 (es:Array (Int×Value)):(zAM es.size).map (fun p=>(es.getD p (0,.none)).2)=es.toList.map (·.2):=by
 refine List.ext_getElem? fun i=>?_;rw[zAs,zAs];by_cases h:i<es.size
 ·rw[List.getElem?_range h,zBh,zAZ h]
  simp [zCe,h]
 ·rw[zBZ (by simpa using h),zBh,zBA (by lia)]
  rfl
theorem La {s:Shared} {h':Heap} (sb:zAU I s.heap h'):Moved [I] (fun x y:Array GenState=>y=x) s { s with heap:=h' }:=⟨fun b o nb e=>(sb.2 b (fun z=>nb (by rw[z]; exact zAk.mpr rfl))).trans e,rfl,rfl,rfl,zAl _⟩
theorem Nz {s:Shared} {h':Heap} (sb:Heap.ExtBut I s.heap h'):Moved [I] (fun x y:Array GenState=>y=x) s { s with heap:=h' }:=⟨fun b o nb e=>sb b o (fun z=>nb (by rw[z]; exact zAk.mpr rfl)) e,rfl,rfl,rfl,zAl _⟩
theorem P1 (hh:A.handled=none) (bt:w.params.followText "set-order" = true) (hf:t.fits es.size=true) (na:a≠I) :
  WalksS prog w A I [I,a] [I] (fun x y=>y=x) es.size (fun i v=>(((pickOrder (w.params.setOrder a ep) es).toList.map (·.2))[i]?)=some v) (fun i s=>P2 s.heap I (rawInt 0) i a es.size ep/\R7 s.heap a es ep t) where
 sub:=fun b hb=>by rw[zAk.mp hb]; exact zAj
 grefl:=fun _=>rfl
 gtrans:=fun _ _ _ h1 h2=>h2.trans h1
 frame:=fun i s h' tk ⟨it,o,ho,hd⟩ _ k=>⟨k I zAj _ it,o,k a (by simp) _ ho,hd⟩
 item:=fun i s Q E hi ⟨it,o,ho,hd⟩ h=>by
  have sz:(pickOrder (w.params.setOrder a ep) es).size=es.size:=by rw[<- zAC,(Ol _ es).length_eq,zAC]
  have ei:(pickOrder (w.params.setOrder a ep) es)[i]?=some ((pickOrder (w.params.setOrder a ep) es)[i]'(by lia)):=zAZ (by lia);refine B2 (slot:=0) (nx:=0) it ho hd hf rfl (fun A' Q' E' q=>Vq bt ho hd hf (by rw[ei]; exact q)) fun h' it' sb=>?_;refine h _ _ ?_ ⟨it',o,(sb.2 a na).trans ho,hd⟩ (La sb);rw[zAs,zBh,ei];rfl
 done:=fun s Q E ⟨it,o,ho,hd⟩ h=>by
  have sz:(pickOrder (w.params.setOrder a ep) es).size=es.size:=by rw[<- zAC,(Ol _ es).length_eq,zAC]
  refine Q9 (slot:=0) hh it ho hd hf rfl (fun A' Q' E' q=>Vq bt ho hd hf (by rw[zBA (by lia)]; exact q)) fun h' sb=>h _ (Nz sb)
 self:=fun i s Q E ⟨it,_⟩ h=>Yg it h
theorem B4 (hh:A.handled=none) (bt:w.params.followText "set-order" = false) (hf:t.fits es.size=true) (hl:t.led=true) (rs:Rs t.place) (hp:(!t.plain&&decide (es.size>1))=false) (na:a≠I) :
  WalksS prog w A I [I,a] [I] (fun x y=>y=x) es.size (fun i v=>((es.toList.map (·.2))[i]?)=some v) (fun i s=>P2 s.heap I (rawInt (Iq t.place i)) i a es.size ep/\R7 s.heap a es ep t) where
 sub:=fun b hb=>by rw[zAk.mp hb]; exact zAj
 grefl:=fun _=>rfl
 gtrans:=fun _ _ _ h1 h2=>h2.trans h1
 frame:=fun i s h' tk ⟨it,o,ho,hd⟩ _ k=>⟨k I zAj _ it,o,k a (by simp) _ ho,hd⟩
 item:=fun i s Q E hi ⟨it,o,ho,hd⟩ h=>by
  have sz:=Rb hf;have bl:=Rc rs (i:=i) (by lia);have ei:es[i]?=some (es[i]'hi):=zAZ hi;have pi:t.place[i]?=some (t.place[i]'(by lia)):=zAZ (by lia);have en:Iq t.place (i+1)=t.place[i]'(by lia)+1:=by
   unfold Iq;rw[if_neg (by lia),Nat.add_sub_cancel];simp [zCe,show i<t.place.size by lia]
  refine B2 (slot:=Iq t.place i) (nx:=Iq t.place (i+1)) it ho hd hf rfl (fun A' Q' E' q=>Qp bt ho hd hf hl hp (by rw[bl,ei,pi]; dsimp only; rw[<- en]; exact q)) fun h' it' sb=>?_;refine h _ _ ?_ ⟨it',o,(sb.2 a na).trans ho,hd⟩ (La sb);rw[zAs,zBh,ei];rfl
 done:=fun s Q E ⟨it,o,ho,hd⟩ h=>by
  have sz:=Rb hf;have bl:=Rc rs (i:=es.size) (by lia);refine Q9 (slot:=Iq t.place es.size) hh it ho hd hf rfl (fun A' Q' E' q=>Qp bt ho hd hf hl hp (by rw[bl,zBA (zAl _)]; exact q)) fun h' sb=>h _ (Nz sb)
 self:=fun i s Q E ⟨it,_⟩ h=>Yg it h
theorem C3 {T:Addr} {ps:List Nat} (hh:A.handled=none) (hf:t.fits es.size=true) (pm:ps.Perm (zAM es.size)) (na:a≠I) (nT:T≠I) :
  WalksS prog w A I [I,a,T] [I] (fun x y=>y=x) es.size (fun i v=>((ps.map fun p=>(es.getD p (0,.none)).2)[i]?)=some v)
   (fun i s=>P2 s.heap I (.ref T) i a es.size ep/\R7 s.heap a es ep t/\s.heap.get? T=some { cls:=.type "tuple",dict:=none,data:=.seq (ps.map fun i:Nat=>rawInt i).toArray 0,slots := #[] }) where
 sub:=fun b hb=>by rw[zAk.mp hb]; exact zAj
 grefl:=fun _=>rfl
 gtrans:=fun _ _ _ h1 h2=>h2.trans h1
 frame:=fun i s h' tk ⟨it,⟨o,ho,hd⟩,hT⟩ _ k=>⟨k I zAj _ it,⟨o,k a (by simp) _ ho,hd⟩,k T (by simp) _ hT⟩
 item:=fun i s Q E hi ⟨it,⟨o,ho,hd⟩,hT⟩ h=>by
  have ln:ps.length=es.size:=by rw[pm.length_eq,zAQ]
  have ei:ps[i]?=some (ps[i]'(by lia)):=zAe (by lia);have pl:ps[i]'(by lia)<es.size:=zBt.mp (pm.mem_iff.mp (zBc _));have ex:es[ps[i]'(by lia)]?=some (es[ps[i]'(by lia)]'pl):=zAZ pl;refine EB (pl:=ps[i]'(by lia)) (k:=(es[ps[i]'(by lia)]'pl).1) (x:=(es[ps[i]'(by lia)]'pl).2) it hT ho hd hf rfl (tk:=0) ?_ ex fun h' it' sb=>?_
  ·rw[zCa,zAs,ei]
   rfl
  ·refine h _ _ ?_ ⟨it',⟨o,(sb.2 a na).trans ho,hd⟩,(sb.2 T nT).trans hT⟩ (La sb)
   rw[zAs,ei];simp [zCe,pl]
 done:=fun s Q E ⟨it,⟨o,ho,hd⟩,hT⟩ h=>by
  have ln:ps.length=es.size:=by rw[pm.length_eq,zAQ]
  refine GU hh it hT ho hd hf rfl ?_ fun h' sb=>h _ (Nz sb);rw[zCa,zAs,zBZ (by lia)];rfl
 self:=fun i s Q E ⟨it,_⟩ h=>Yg it h
theorem X9 (hh:A.handled=none) {h0 h:Heap} (hs:R7 h a es ep t) (hf:t.fits es.size=true) (g:Kk (w.params.followText "set-order") t) (na:a≠I) (nI:h0.get? I=none) (b:OE w h0 h I a es ep t) :
  ∃ (os:List Value) (fp:List Addr) (St:Nat->Shared->Prop),os.Perm (es.toList.map (·.2))/\WalksS prog w A I fp [I] (fun x y=>y=x) es.size (fun i v=>os[i]?=some v) St/\(∀ s:Shared,s.heap=h->St 0 s)/\∀ x∈fp,x=a\/h0.get? x=none:=by
 rcases b with ⟨it,bt | ⟨bt,hp⟩⟩ | ⟨T,ps,it,hT,pm,nT,nT0⟩
 ·refine⟨_,_,_,(Ol (w.params.setOrder a ep) es).map _,P1 hh bt hf na,fun s e=>by rw[e]; exact⟨it,hs⟩,fun x hx=>?_⟩
  rcases zAn.mp hx with z | z
  ·rw[z]; exact .inr nI
  ·exact .inl (zAk.mp z)
 ·refine⟨_,_,_,List.Perm.refl _,B4 hh bt hf (g.ld bt) g.rs hp na,fun s e=>by rw[e]; exact⟨it,hs⟩,fun x hx=>?_⟩
  rcases zAn.mp hx with z | z
  ·rw[z]; exact .inr nI
  ·exact .inl (zAk.mp z)
 ·refine⟨_,_,_,(pm.map _).trans (List.Perm.of_eq (K0 es)),C3 hh hf pm na nT,fun s e=>by rw[e]; exact⟨it,hs,hT⟩,fun x hx=>?_⟩
  rcases zAn.mp hx with z | z
  ·rw[z]; exact .inr nI
  ·rcases zAn.mp z with z | z
   ·exact .inl z
   ·rw[zAk.mp z]; exact .inr nT0
end
section
variable {prog:Program} {w:World} {A:Around} {E:Value->Shared->Prop} {s:Shared} {a:Addr} {o:Obj} {es:Array (Int×Value)} {ep:Nat} {t:SetTable}
theorem FG:typeLookup (.type "set") (Str.ofString "__len__")=pure (some (.builtin "set.__len__")):=F.slot_set_len.lookup
theorem JJ:isSubtype (.type "set") (.type "set")=pure true:=by rw[isSubtype_type]; kernel_rfl
theorem DN {Q:Bool->Shared->Prop} (ty:s.TypeIs (.ref a) "set") (h:Q false s):wpAny (model prog w) A (Builtin.List.listLengthHint (.ref a)) Q E s:=by
 unfold Builtin.List.listLengthHint;refine zCC (wpAny_specialOf ty FG ?_);generalize hid:("set.__len__" : String)=id0
 wp_delta
 rw[show splitId id0=some ("set", "__len__") from by subst hid; decide +kernel];subst hid;refine zCC (wpAny_isInstance ty JJ ?_);show wpAny _ A (typeOf (Value.ref a) >>= _) _ _ _;refine zCC (wpAny_typeOf ty ?_);exact zCD h
theorem B1 {Q:List Value->Shared->Prop} (hh:A.handled=none) (hc:o.cls = .type "set") (ho:s.heap.get? a=some o) (hd:o.data = .set es ep t) (hf:t.fits es.size=true) (g:Kk (w.params.followText "set-order") t) (hz:es.size<=sizeLine)
  (h:∀ s' vs,vs.Perm (es.toList.map (·.2))->(∀ b ob,s.heap.get? b=some ob->s'.heap.get? b=some ob)->s'.gens=s.gens->s'.os=s.os->Q vs s'):wpAny (model prog w) A (collect (.ref a)) Q E s:=by
 unfold collect;refine zCC (wpAny_runValue (codeAny_builtin F.entry_proto_collect ?_));rw[Around.under_plainId F.plain_proto_collect _];show wpAny _ A.in1 (newList [] >>= fun l=>again (.builtin "list.__iadd__" ⟨[l,.ref a],[]⟩)) _ _ s;refine zCC (wpAny_newObj_type (zCD ⟨plainId_quiet F.plain_list_iadd _,codeAny_builtin F.entry_list_iadd ?_⟩));rw[Around.under_plainId F.plain_list_iadd _];have lt:a<s.heap.objs.size:=zAp ho;have old:∀ b ob,s.heap.get? b=some ob->(s.heap.push { cls:=.type "list",data:=.seq ([]:List Value).toArray }).get? b=some ob:=fun b ob e=>zAd _ e;have at0:(s.heap.push { cls:=.type "list",data:=.seq ([]:List Value).toArray }).get? s.heap.objs.size=some { cls:=.type "list",data:=.seq ([]:List Value).toArray }:=zAu _ rfl;generalize hL:s.heap.objs.size=L at at0;generalize s.heap.push { cls:=.type "list",data:=.seq ([]:List Value).toArray }=H at old at0;have nL:s.heap.get? L=none:=by
  cases z:s.heap.get? L with
  | none=>rfl
  | some ob=>exact absurd (zAp z) (by rw[hL]; exact zBm _)
 show wpAny _ A.in1 (Builtin.List.listExtendWith (.ref L) (.ref a) (.ref L)) _ _ { s with heap:=H };unfold Builtin.List.listExtendWith;have ty:Shared.TypeIs { s with heap:=H } (.ref a) "set" := ⟨_,old _ _ ho,hc⟩;refine zCC (wpAny_typeOf ty ?_);have c1:Builtin.List.listSameRef (.ref L) (.ref a)=false:=by
  have:L≠a:=by rw[<- hL]; exact zBk lt
  simp [Builtin.List.listSameRef,this]
 rw[if_neg (by rw[c1]; decide)];refine zCC (DJ (s:={ s with heap:=H }) hc (old _ _ ho) hd hf hz fun h1 d I bg k1 nI=>?_);have ty1:Shared.TypeIs { s with heap:=h1,drawn:=d } (.ref a) "set" := ⟨_,k1 _ _ (old _ _ ho),hc⟩;refine zCC (wpAny_holding (DN ty1 ?_));show wpAny _ A.in1 (rule "list.extend.makes-room" >>= fun _=>Builtin.List.listTouch (.ref L) >>= fun _=>again (.builtin "list.extend.loop" ⟨[.ref L,.ref I,.ref L],[]⟩)) _ _ _;refine zCC (wpAny_rule (zCC ?_));show wpAny _ A.in1 (updateSeq L (·.push .none) >>= fun _=>updateSeq L (·.pop)) _ _ _;have at1:=k1 _ _ at0;refine zCC (wpAny_updateSeq (s:={ s with heap:=h1,drawn:=d }) at1 rfl ?_);have at2:=zBX (Obj.mapSeq (·.push Value.none)) at1 rfl;refine wpAny_updateSeq at2 rfl ?_;have at3:=zBX (Obj.mapSeq (·.pop)) at2 rfl;have oth:∀ b ob,b≠L->h1.get? b=some ob->((h1.update L (Obj.mapSeq (·.push Value.none))).update L (Obj.mapSeq (·.pop))).get? b=some ob:=fun b ob nb e=>
  (zBQ _ _ (Ne.symm nb)).trans ((zBQ _ _ (Ne.symm nb)).trans e)
 have naI:a≠I:=fun z=>by
  rw[<- z] at nI;have:=old _ _ ho;have nI':H.get? a=none:=nI;rw[this] at nI';cases nI'
 have nLI:L≠I:=fun z=>by
  rw[<- z] at nI;have nI':H.get? L=none:=nI;rw[at0] at nI';cases nI'
 obtain⟨vs,fp,St,pm,W,st0,inf⟩:=X9 (prog:=prog) (A:=A.in1.in1) (by exact hh) (h:=h1) ⟨o,k1 _ _ (old _ _ ho),hd⟩ hf g naI nI bg;have nf:L∉fp:=fun z=>by
  rcases inf L z with e | e
  ·exact absurd e (by rw[<- hL]; exact zBk lt)
  ·have e':H.get? L=none:=e
   rw[at0] at e';cases e'
 have st1:=W.frame 0 { s with heap:=h1,drawn:=d } _ s.toks (st0 _ rfl) (zAl _) fun b hb ob e=>oth b ob (fun z=>nf (z▸hb)) e;refine zCD ⟨plainId_quiet F.plain_extend_loop _,codeAny_extend_loopS W.of_in1 hz L nf _ es.size 0 _ _ _ rfl (zAD _) st1 at3 (ItemsOf.nil _) fun s' acc c' hm hS' hacc=>?_⟩;show wpAny _ A (load L >>= _) _ _ s';refine zCC (wpAny_load hS' (zCD ?_));have ea:acc.toList=vs:=by
  obtain⟨z1,z2⟩:=hacc;have lv:vs.length=es.size:=by rw[pm.length_eq,zAb,zAC]
  refine List.ext_getElem? fun j=>?_;rw[zBh];by_cases hj:j<acc.size
  ·rw[zAZ hj]
   exact (z2 j _ (zAZ hj)).symm
  ·rw[zBA (by omega),zBZ (by omega)]
 rw[ea];refine h s' vs pm (fun b ob e=>hm.heap b ob (fun z=>?_) (oth b ob (fun z=>?_) (k1 b ob (old b ob e)))) hm.gens hm.os
 ·rcases zAn.mp z with z | z
  ·rw[z,nL] at e
   cases e
  ·rw[zAk.mp z] at e
   have e':=old _ _ e;have nI':H.get? I=none:=nI;rw[e'] at nI';cases nI'
 ·rw[z,nL] at e
  cases e
end
section
variable {prog:Program} {w:World} {A:Around} {E:Value->Shared->Prop} {s:Shared}
theorem U1 {x:Value} {Q:Value->Shared->Prop} (h:Q (.ref s.heap.objs.size) { s with heap:=s.heap.push { cls:=.type "set",dict:=none,data:=.set #[] 0 (.fresh 0 0 (!w.params.followText "set-order")) } }) :
  codeAny (model prog w) A (.call (.builtin "set.__new__") ⟨[.type "set",x],[]⟩) (wants Q E) s:=by
 refine codeAny_of_tree ?_;show wpAny _ A.in1 (do checkBuiltinCall "set.__new__" ⟨[.type "set",x],[]⟩; again (.builtin "set.__new__" ⟨[.type "set",x],[]⟩)) _ _ s;refine zCC (wpAny_of_eq (F.newCall_set_1 x) (zCD ⟨plainId_quiet F.plain_set_new _,codeAny_builtin F.entry_set_new ?_⟩));rw[Around.under_plainId F.plain_set_new _];unfold Builtin.«set.__new__» Builtin.Frozenset.newClass;have hsub:=sub_set_self;obtain⟨hp,gn,d,tk,os⟩:=s
 dsimp only
 wp_walk
 refine wpAny_askSetting (zCD ?_)
 dsimp only
 simp only [newObj];exact zCC (wpAny_alloc (zCD (zCD h)))
variable {R:Result->Shared->Prop} {I:Addr} {fp wr:List Addr} {G:Array GenState->Array GenState->Prop} {n:Nat} {P:Nat->Value->Prop} {St:Nat->Shared->Prop}
theorem GSet.keep {h h':Heap} {a:Addr} {ks:List Int} (g:GSet (intKind prog w) h a ks) (k:∀ o,h.get? a=some o->h'.get? a=some o):GSet (intKind prog w) h' a ks:=by
 obtain⟨o,es,ep,t,ho,r⟩:=g;exact⟨o,es,ep,t,k o ho,r⟩
theorem D5 (W:WalksS prog w A.in1 I fp wr G n P St) (S:Addr) (nS:S∉fp) (val:Nat->Int) (hv:∀ i v,P i v->∃ t,v = .int (val i) t) (hb:n+1<scanBound) :
  ∀ (k i:Nat) (s:Shared) (ks:List Int),n-i=k->i<=n->St i s->GSet (intKind prog w) s.heap S ks->(∀ y,y∈ks↔∃ j,j<i/\val j=y)->ks.length<=i ->
   (∀ s' ks',Moved (S::wr) G s s'->GSet (intKind prog w) s'.heap S ks'->(∀ y,y∈ks'↔∃ j,j<n/\val j=y)->ks'.length<=n->R (.ok (.ret .none)) s') ->
   codeAny (model prog w) A (.builtin "set.update.loop" ⟨[.ref S,.ref I],[]⟩) R s:=by
 have nw:S∉wr:=fun z=>nS (W.sub _ z);have sub:∀ b∈wr,b∈S::wr:=fun b hb=>zAf _ hb;intro k
 induction k with
 | zero=>
  intro i s ks hk hi st g mem len fin;have e:i=n:=by lia
  subst e;refine codeAny_builtin PyProof.Rows.F.entry_set_update_loop ?_;rw[Around.under_plainId PyProof.Rows.F.plain_set_update_loop _];show wpAny _ A.in1 (pyNext (.ref I) >>= _) _ _ s;refine zCC (W.done s _ _ st fun s' hm=>?_);show wpAny _ A.in1 (ret Value.none) _ _ s';exact zCD (fin s' ks (hm.mono sub) (g.keep fun o e=>hm.heap S o nw e) mem len)
 | succ k ih=>
  intro i s ks hk hi st g mem len fin;refine codeAny_builtin PyProof.Rows.F.entry_set_update_loop ?_;rw[Around.under_plainId PyProof.Rows.F.plain_set_update_loop _];show wpAny _ A.in1 (pyNext (.ref I) >>= _) _ _ s;refine zCC (W.item i s _ _ (by lia) st fun v s' hP st' hm=>?_);obtain⟨tk,rfl⟩:=hv i v hP;have g':=g.keep fun o e=>hm.heap S o nw e;show wpAny _ A.in1 (holding [Value.int (val i) tk] (setAdd S (.int (val i) tk)) >>= _) _ _ s';refine zCC (wpAny_holding ?_);unfold setAdd;refine wpAny_holding (zCC ((intKind prog w).pyHash (k:=val i) (intKind_is _ _ _ _) ?_));refine IC (knd:=intKind prog w) (s:={ s' with toks:=s'.toks+1 }) (intKind_is _ _ _ _) rfl g' (by lia) fun b h' ks' sb g2 pm=>?_;have len':ks'.length<=i+1:=by
   rw[pm.length_eq]
   split
   ·lia
   ·rw[zAo,List.length_singleton]; lia
  have mem':∀ y,y∈ks'↔∃ j,j<i+1/\val j=y:=fun y=>by
   rw[pm.mem_iff];constructor
   ·intro hy
    split at hy
    ·obtain⟨j,h1,h2⟩:=(mem y).mp hy
     exact⟨j,by lia,h2⟩
    ·rcases zAy.mp hy with z | z
     ·obtain⟨j,h1,h2⟩:=(mem y).mp z
      exact⟨j,by lia,h2⟩
     ·exact⟨i,by lia,(zAk.mp z).symm⟩
   ·rintro ⟨j,h1,h2⟩
    have old:∀ {z},z∈ks->z∈(if val i∈ks then ks else ks++[val i]):=fun {z} hz=>by
     split
     ·exact hz
     ·exact zCb _ hz
    by_cases c:j<i
    ·exact old ((mem y).mpr ⟨j,c,h2⟩)
    ·have e:j=i:=by lia
     subst e
     split
     ·rw[<- h2]; assumption
     ·rw[<- h2]; exact zAR _ (zAk.mpr rfl)
  refine zCD ⟨plainId_quiet PyProof.Rows.F.plain_set_update_loop _,ih (i+1) _ ks' (by lia) (by lia) (W.frame _ s' _ _ st' (zBl _) fun b hb o e=>?_) g2 mem' len' fun s2 ks2 hm2 g3 m3 l3=>?_⟩
  ·rw[sb.2 b (fun z:b=S=>nS (by rw[<- z]; exact hb))]; exact e
  ·refine fin s2 ks2 (Moved.trans W.gtrans ((hm.mono sub).then_heap (zBl _) fun b o hb e=>?_) hm2) g3 m3 l3
   rw[sb.2 b (fun z:b=S=>hb (by rw[z]; exact zAj))]; exact e
end
section
variable {prog:Program} {w:World} {A:Around} {E:Value->Shared->Prop} {s:Shared}
abbrev Ht (w:World):Obj:={ cls:=.type "set",dict:=none,data:=.set #[] 0 (.fresh 0 0 (!w.params.followText "set-order")) }
theorem EN {h:Heap} {a:Addr} (ho:h.get? a=some (Ht w)):GSet (intKind prog w) h a []:=by
 refine⟨_,#[],0,_,ho,⟨rfl,rfl,rfl⟩,rfl,.nil,zCt,by decide,rfl,?_⟩;exact Tc (w.params.followText "set-order")
theorem set_of_list {l:Addr} {items:Array Value} {ns:List Int} {Q:Value->Shared->Prop} (hh:A.handled=none) (hl:s.heap.IsList l items) (hi:PyProof.Rows.IntsAre items.toList ns) (hb:items.size+1<scanBound)
  (h:∀ (h':Heap) (tk:Nat) (ks:List Int),GSet (intKind prog w) h' s.heap.objs.size ks->(∀ y,y∈ks↔y∈ns)->ks.length<=items.size->(∀ b o,s.heap.get? b=some o->h'.get? b=some o)->Q (.ref s.heap.objs.size) { s with heap:=h',toks:=tk }) :
  wpAny (model prog w) A (call (.type "set") [.ref l]) Q E s:=by
 obtain⟨c,tl,hmro⟩:=F.called_set.mro;have hmade:=F.called_set.made;have hsub:=F.called_set.sub;have h1:=F.called_set.notType;have h2:=F.called_set.canCreate;have hct:=F.typeCall_set_1 (.ref l);refine wpAny_call (codeAny_of_tree (show wpAny _ _ (callAny (.type "set") _) _ _ _ from ?_));refine zCD ⟨Code.quiet_builtin _ (by decide +kernel),codeAny_builtin F.entry_type_call ?_⟩;rw[Around.under_plain (weight_type_call_type "set" [.ref l] []) rfl]
 repeat (any_goals (first | assumption | wp_step))
 refine codeAny_mono (U1 (x:=.ref l) (E:=E) (Q:=fun v s₁ => v = .ref s.heap.objs.size/\s₁ = { s with heap:=s.heap.push (Ht w) }) ⟨rfl,rfl⟩) fun r s₁ hr=>?_;cases r with
 | error e=>exact hr
 | ok fl=>
  cases fl with
  | ret obj=>
   obtain⟨rfl,rfl⟩:=hr;have at0:(s.heap.push (Ht w)).get? s.heap.objs.size=some (Ht w):=zAu _ rfl;have hT:Shared.TypeIs { s with heap:=s.heap.push (Ht w) } (.ref s.heap.objs.size) "set" := ⟨_,at0,rfl⟩;have hli:=F.called_set.init.lookup;have hbi:=F.called_set.init.bind (.ref s.heap.objs.size)
   repeat (any_goals (first | assumption | wp_step))
   refine codeAny_mono (codeAny_call_builtin (R:=wants (fun r s₂ => r = .none/\∃ h' tk ks,s₂ = { s with heap:=h',toks:=tk }/\GSet (intKind prog w) h' s.heap.objs.size ks/\(∀ y,y∈ks↔y∈ns)/\ks.length<=items.size/\(∀ b o,s.heap.get? b=some o->h'.get? b=some o)) E)
    F.called_set.init.plain F.entry_set_init (check_set_init_1 hT ?_)) fun r₂ s₂ hr₂ => ?_
   ·obtain⟨⟨oc,od,odt,osl⟩,hol,hcl,nl,hdl⟩:=id hl
    simp only at hcl hdl;subst hcl hdl;have old:(s.heap.push (Ht w)).get? l=some { cls:=.type "list",dict:=od,data:=.seq items nl,slots:=osl }:=zAd _ hol;have il:(s.heap.push (Ht w)).IsList l items:=⟨_,old,rfl,nl,rfl⟩;have lt:l<s.heap.objs.size:=zAp hol;have u1:=F.sub_list_set;have u2:=F.sub_list_frozenset;have u3:(Value.type "list" == Value.type "dict")=false:=by decide
    unfold Builtin.«set.__init__» noKeywords Builtin.Frozenset.updateFrom;generalize hPI:pyIter=PI
    wp_walk
    subst hPI;refine wpAny_pyIter_list il (zCC (wpAny_runValue ?_));have sz:(s.heap.push (Ht w)).objs.size=s.heap.objs.size+1:=zBn ..;have ne:l≠(s.heap.push (Ht w)).objs.size:=by rw[sz]; exact zAw (zBw lt)
    have h3:A.in1.in1.in1.handled=none:=by simp [hh]
    have nf:s.heap.objs.size∉[(s.heap.push (Ht w)).objs.size,l]:=by
     rw[sz];intro z;rcases zAn.mp z with z | z
     ·exact absurd z (zAw (zBx _))
     ·exact absurd (zAk.mp z) (zBk lt)
    have hv:∀ (i:Nat) (v:Value),items[i]?=some v->∃ t,v = .int ((fun i=>ns.getD i 0) i) t:=fun i v e=>PyProof.Rows.IntsAre.int_at hi i v (by rw[zBh]; exact e);have ln:items.size=ns.length:=by rw[<- zAC]; exact hi.length
    refine D5 ((Walks.list h3 _ l ne items).toS) s.heap.objs.size nf (fun i=>ns.getD i 0) hv hb (items.size-0) 0 _ [] (by lia) (zAD _) ⟨⟨_,zAu _ rfl,rfl,rfl⟩,il.push _⟩ (EN (zAd _ at0)) (fun y=>⟨fun z=>(nomatch z),fun ⟨j,z,_⟩=>absurd z (zBq _)⟩) (zAD _) fun s' ks hm g m ln'=>?_;obtain⟨h',g',d',tk',os'⟩:=s';have eg:g'=s.gens:=hm.gens;have ed:d'=s.drawn:=hm.drawn;have eo:os'=s.os:=hm.os;subst eg ed eo;refine zCD (zCD ⟨rfl,h',tk',ks,rfl,g,fun y=>?_,ln',fun b o e=>?_⟩)
    ·rw[m y]
     constructor
     ·rintro ⟨j,z1,z2⟩
      rw[<- z2];show ns.getD j 0∈ns;rw[zAt,zAe (by lia)];exact zBc _
     ·intro z
      obtain⟨j,hj,e⟩:=zAY z;refine⟨j,by lia,?_⟩;show ns.getD j 0=y;rw[zAt,zAe hj];exact e
    ·refine hm.heap b o (fun z=>?_) (zAd _ (zAd _ e))
     have lb:=zAp e;rcases zAn.mp z with z | z
     ·exact absurd z (zAw lb)
     ·exact absurd (zAk.mp z) (by rw[sz]; exact zAw (zBw lb))
   ·cases r₂ with
    | error e=>exact hr₂
    | ok fl₂ =>
     cases fl₂ with
     | ret r=>
      obtain⟨rfl,h',tk,ks,rfl,g,m,ln,k⟩:=hr₂
      repeat (any_goals (first | assumption | wp_step))
      exact h _ _ ks g m ln k
     | _=>exact hr₂.elim
  | _=>exact hr.elim
end
end CST
namespace CST
open PySem PyProof.Rows
section
variable {prog:Program} {w:World} {A:Around} {E:Value->Shared->Prop} {s:Shared}
theorem Oq:∀ {l:List (Int×Value)} {ks:List Int},Paired (KG (intKind prog w)) l ks->IntsAre (l.map (·.2)) ks
 | _,_,.nil=>.nil
 | e::l,k::ks,.cons r t=>by
  obtain⟨tk,h⟩:=Value.isInt_shape r.1;rw[zAH,h];exact .cons k tk (Oq t)
theorem Y6:∀ {vs us:List Value},vs.Perm us->∀ {ns:List Int},IntsAre us ns->∃ ms:List Int,IntsAre vs ms/\ms.Perm ns:=by
 intro vs us p;have q:=p.symm;clear p
 induction q with
 | nil=>intro ns h; exact⟨ns,h,List.Perm.refl _⟩
 | cons x _ ih=>
  intro ns h;cases h with
  | cons n t r=>
   obtain⟨ms,h1,h2⟩:=ih r;exact⟨n::ms,.cons n t h1,h2.cons n⟩
 | swap x y l=>
  intro ns h;cases h with
  | cons n t r=>
   cases r with
   | cons m u r2=>exact⟨_,.cons m u (.cons n t r2),List.Perm.swap _ _ _⟩
 | trans _ _ ih1 ih2=>
  intro ns h;obtain⟨m1,h1,p1⟩:=ih1 h;obtain⟨m2,h2,p2⟩:=ih2 h1;exact⟨m2,h2,p2.trans p1⟩
theorem sorted_set {a:Addr} {ks:List Int} {Q:Value->Shared->Prop} (hh:A.handled=none) (g:GSet (intKind prog w) s.heap a ks) (h64:ks.length<64)
  (h:∀ (s':Shared) (l:Addr) (out:Array Value) (ms:List Int) (e:Nat),IntsAre out.toList ms->ms.Perm ks->ms.Pairwise (· <= ·)->(∀ b o,s.heap.get? b=some o->s'.heap.get? b=some o)->a<l->s'.heap.get? l=some (seqObj "list" out e)->s'.gens=s.gens->s'.os=s.os->Q (.ref l) s') :
  wpAny (model prog w) A (call (.builtin "sorted") [.ref a]) Q E s:=by
 obtain⟨o,es,ep,t,ho,hex,hd,hp,nd,hb,hf,gd⟩:=g;have lk:es.size=ks.length:=by rw[<- zAC]; exact Paired.length hp
 have line:es.size<=sizeLine:=by rw[zCE]; lia
 refine Calls.call_function_entry kind_sorted plain_sorted entry_sorted (args_sorted1 _) ?_;unfold Builtin.«sorted»;refine zCC (m:=checkCount "sorted" 1 1 _) (zCD (zCC (B1 (by exact hh) hex.1 ho hd hf gd line fun s' vs pm k eg eo=>?_)));have lv:vs.length=ks.length:=by rw[pm.length_eq,zAb,zAC,lk]
 obtain⟨ms,im,mp⟩:=Y6 pm (Oq hp);refine zCC (wpAny_newList ?_ (by rw[lv,<- lk]; exact line));have at1:(s'.heap.push (seqObj "list" vs.toArray 0)).get? s'.heap.objs.size=some (seqObj "list" vs.toArray 0):=zAu _ rfl;refine zCC (wpAny_holding (wpAny_call_entry slot_list_sort ⟨_,at1,rfl⟩ entry_list_sort (list_sort_tree (s:={ s' with heap:=s'.heap.push (seqObj "list" vs.toArray 0) }) at1 im (by lia) fun out ns' a1 a2 a3=>⟨_,rfl,?_⟩) (args_list_sort _)));refine zCD ⟨_,rfl,?_⟩;obtain⟨e,he⟩:=sortedHeap_at (out:=out) at1;have lt:∀ b ob,s.heap.get? b=some ob->b<s'.heap.objs.size:=fun b ob z=>zAp (k b ob z);refine h _ s'.heap.objs.size out ns' e a1 (a2.trans mp) a3 (fun b ob z=>?_) ?_ he eg eo
 ·show (sortedHeap _ _ _ _).get? b=_
  rw[sortedHeap_old (zAw (lt b ob z)) (by rw[size_push']; exact zBw (lt b ob z))];exact zAd _ (k b ob z)
 ·exact lt a o ho
end
end CST
namespace L2
open PySem PySem.Spec PyProof.Rows PySem.W
theorem Vd:∀ {us:List Value} {ns:List Int},IntsAre us ns->Vals (ns.map V.int) us
 | _,_,.nil=>.nil
 | _,_,.cons n t r=>.cons ⟨t,rfl⟩ (Vd r)
section
variable {X:Cx}
def DP (K:zAa) (te:TE):TE:=fun σ H Q=>te σ H fun x H1=>∃ (a:Addr) (ns:List Int),x = .ref a/\SqL K H1 a (ns.map V.int)/\ns.length<64 /\
 ∀ (l:Addr) (ms:List Int),H1 l=none->ms.Pairwise (· < ·)->(∀ y,y∈ms↔y∈ns)->Q (.ref l) (upd H1 l (.lst (ms.map V.int)))
theorem Ox:∀ {ms:List Int},ms.Pairwise (· <= ·)->ms.Nodup->ms.Pairwise (· < ·)
 | [],_,_=>.nil
 | x::ms,h,n=>by
  rw[zAO] at h;rw[zAX] at n;rw[zAO];refine⟨fun y hy=>?_,Ox h.2 n.2⟩;have:=h.1 y hy;have ne:x≠y:=fun z=>n.1 (by rw[z]; exact hy)
  lia
theorem E7 {e:Expr} {te:TE} {p1 p2 pos1 pos2:Pos} (he:PE X e te) (hc:X.calm=true) (hg1:Gl X "sorted") (hm1:X.mg "sorted" = none) (hg2:Gl X "set") (hm2:X.mg "set" = none)
  (hv1:zCF "sorted" = some (.builtin "sorted"):=by rfl) (hv2:zCF "set" = some (.type "set"):=by rfl)
  (hs1:starEach [.Call (.Name "set" p2) [e] [] pos2] X.env=[(false,eval (.Call (.Name "set" p2) [e] [] pos2) X.env)]:=by rfl) (hs2:starEach [e] X.env=[(false,eval e X.env)]:=by rfl) :
  PE X (.Call (.Name "sorted" p1) [.Call (.Name "set" p2) [e] [] pos2] [] pos1) (DP X.K te):=by
 intro pins s σ H Q I h;refine wpAny_Call_Name_kw (Hg I hg1 hm1 hv1 ?_ (by decide) (by decide));refine PyProof.Rows.callWith_builtin1 ?_ hs1 rfl;rw[hs1];show wpAny _ _ (spliced ((false,eval (.Call (.Name "set" p2) [e] [] pos2) X.env)::backTo pos1 [])) _ _ s;refine Calls.spliced_cons ?_;refine wpAny_Call_Name_kw (Hg I hg2 hm2 hv2 ?_ (by decide) (by decide));refine PyProof.Rows.callWith_type1 ?_ hs2 rfl;rw[hs2];show wpAny _ _ (spliced ((false,eval e X.env)::backTo pos2 [])) _ _ s;refine Calls.spliced_cons (Cw (he pins s σ H _ I h) fun u s1 ⟨x,H1,I1,r1,a,ns,ex,hq,l64,q⟩=>?_);subst ex;cases r1;refine Calls.spliced_nil ?_;obtain⟨its,rv,pl,hz⟩:=I1.list hq;have hl:=rv.length;rw[zAb] at hl;have hh:X.A.handled=none:=I.ok.hd hc;refine CST.set_of_list (items:=its.toArray) (ns:=ns) hh pl.isList (Ti rv) (by rw[zAh]; unfold scanBound; lia) fun h2 tk ks g mem len k2=>?_;refine Calls.spliced_nil ?_;rw[zAh] at len;refine CST.sorted_set (s:={ s1 with heap:=h2,toks:=tk }) hh g (by lia) fun s' l out ms ee im pm pw k3 al hl' eg eo=>?_;have nd:ms.Nodup:=by
  obtain⟨_,_,_,_,_,_,_,_,nd,_⟩:=g;exact pm.nodup_iff.mpr nd
 have lt:=Ox pw nd;have kk:∀ b ob,s1.heap.get? b=some ob->s'.heap.get? b=some ob:=fun b ob z=>k3 b ob (k2 b ob z);have le:s1.heap.objs.size<=l:=Nat.le_of_lt al;have lp:(ms.map V.int).length<=sizeLine:=by rw[zAb,pm.length_eq,zCE]; lia
 have new:ObjOk X.prog X.w (upd H1 l (.lst (ms.map V.int))) s'.heap l (.lst (ms.map V.int)):=⟨lp,out.toList,ee,Vd im,hl'⟩;refine⟨.ref l,upd H1 l (.lst (ms.map V.int)),I1.call' (s':=s') (ch:=[]) eo (Un.laid kk le (I1.hok.fresh le)) (I1.hok.laid kk le new) (by rw[eg]; exact I1.bare) (fun b z=>(nomatch z)),rfl,q l ms (I1.hok.fresh le) lt fun y=>?_⟩;rw[pm.mem_iff];exact mem y
theorem Ry {ns:List Int} {its:List Value} (rv:Vals (ns.map V.int) its):∃ ys,its.toArray=intItems ys/\ys.size=ns.length/\∀ i,(h:i<ns.length)->numAt ys i=ns[i]:=by
 have hi:IntsAre its ns:=Lm rv;obtain⟨ys,ey⟩:=hi.allInts.items;have lenI:its.length=ns.length:=hi.length;have hy:ys.size=ns.length:=by
  have z:=congrArg Array.size ey;rw[zAh] at z;unfold intItems at z;rw[Array.size_map] at z
  lia
 refine⟨ys,ey,hy,fun i h=>?_⟩;obtain⟨u,hu,t,ru⟩:=rv.get (i:=i) (x:=.int ns[i]) (by rw[zAs,zAe h]; rfl);have e1:(intItems ys)[i]?=some u:=by rw[<- ey,zCa]; exact hu
 obtain⟨t',e2⟩:=intItems_at e1;rw[ru] at e2;injection e2 with e3;exact e3.symm
def IB (K:zAa) (le:Int->Int->Prop):List V->Hp->VK->Prop:=fun xs H Q=>∃ p,∃ ns:List Int,xs=[.ref p]/\SqL K H p (ns.map V.int)/\ns≠[]/\∀ m∈ns,(∀ k∈ns,le m k)->Q (.int m) H
theorem W8 (hc:X.calm=true):Gc X (.builtin "min") (IB X.K (fun m k=>m<=k)):=by
 intro pins s σ H xs us Q I r h;obtain⟨p,ns,rfl,hq,hne,q⟩:=h;obtain⟨u,rfl,rx⟩:=Jb r;cases rx;obtain⟨its,rv,pl,hz⟩:=I.list hq;obtain⟨ys,ey,hy,hn⟩:=Ry rv;have hl:s.heap.IsList p (intItems ys):=ey▸pl.isList;have hpos:0<ns.length:=List.length_pos_iff.mpr hne;refine min_intList (I.ok.hd hc) hl (by lia) fun v h' tk hv hk=>?_;obtain⟨b1,b2⟩:=argBest_lt (numAt ys) (ys.size-1);obtain⟨t,rfl⟩:=intItems_at hv;generalize argBest (fun i j=>decide (numAt ys i<numAt ys j)) (ys.size-1)=z at b1 b2;have zl:z<ns.length:=by lia
 refine⟨.int (numAt ys z),H,I.kept hk,⟨t,rfl⟩,q _ ?_ fun k hk'=>?_⟩
 ·rw[hn z zl]
  exact zBc _
 ·obtain⟨j,hj,e⟩:=zAY hk'
  rw[<- e,<- hn j hj];exact b2 j (by lia)
theorem Y0 (hc:X.calm=true):Gc X (.builtin "max") (IB X.K (fun m k=>k<=m)):=by
 intro pins s σ H xs us Q I r h;obtain⟨p,ns,rfl,hq,hne,q⟩:=h;obtain⟨u,rfl,rx⟩:=Jb r;cases rx;obtain⟨its,rv,pl,hz⟩:=I.list hq;obtain⟨ys,ey,hy,hn⟩:=Ry rv;have hl:s.heap.IsList p (intItems ys):=ey▸pl.isList;have hpos:0<ns.length:=List.length_pos_iff.mpr hne;refine max_intList (I.ok.hd hc) hl (by lia) fun v h' tk hv hk=>?_;obtain⟨b1,b2⟩:=argBest_gt (numAt ys) (ys.size-1);obtain⟨t,rfl⟩:=intItems_at hv;generalize argBest (fun i j=>decide (numAt ys i>numAt ys j)) (ys.size-1)=z at b1 b2;have zl:z<ns.length:=by lia
 refine⟨.int (numAt ys z),H,I.kept hk,⟨t,rfl⟩,q _ ?_ fun k hk'=>?_⟩
 ·rw[hn z zl]
  exact zBc _
 ·obtain⟨j,hj,e⟩:=zAY hk'
  rw[<- e,<- hn j hj];exact b2 j (by lia)
def BG:V->List V->Hp->VK->Prop:=fun x vs H Q=>∃ l b xs zs,x = .ref l/\vs=[.ref b]/\H l=some (.lst xs)/\H b=some (.tup zs)/\xs.length+zs.length<=sizeLine/\Q .non (upd H l (.lst (xs++zs)))
theorem K9:MU X "list.extend" BG:=by
 intro pins s σ H x vs v us Q I rx rv h;obtain⟨l,b,xs,zs,rfl,rfl,hH,hB,hz,q⟩:=h;cases rx;obtain⟨u,rfl,ru⟩:=rv.one;cases ru;obtain⟨z,its,n,r,hl,e⟩:=I.lstM hH;obtain⟨z2,its2,r2,ob,e2,hc2,n2,hd2⟩:=(show ObjOk X.prog X.w H s.heap b (.tup zs) from I.hok b _ hB);have l1:=r.length;have l2:=r2.length;have sz:its.toArray.size+its2.toArray.size<=sizeLine:=by rw[zAh,zAh]; lia
 have no:¬ (!its.toArray.isEmpty&&Builtin.List.listTooLong (its.toArray.size+its2.toArray.size))=true:=by rw[Yz sz,zBY]; exact zAm
 refine wpAny_call_entry F.slot_list_extend ⟨_,e,rfl⟩ F.entry_list_extend ?_ (F.args_list_extend_2 _ _);show wpAny _ _ (Builtin.List.listExtendWith (.ref l) (.ref b) .none) _ _ _;unfold Builtin.List.listExtendWith;refine zCC (wpAny_typeOf (T := "tuple") ⟨_,e2,hc2⟩ ?_);rw[if_pos (by simp)];refine zCC (listItems_at e2 hd2 (zCC (listItems_at e rfl ?_)));rw[if_neg no];refine zCC (listUpdate_at e rfl ?_ (by rw[zAh]; lia) (by rw[Array.size_append]; lia));refine zCD ⟨_,rfl,.non,_,I.lset (its':=its++its2) hH e (by simp) (r.append r2) ?_,rfl,q⟩;rw[zAo]
 lia
end
end L2
namespace L2
open PySem PySem.Spec PyProof.Rows
inductive Co where
 | alw | cau (n:Str) | thi (n:Str) | day (a b:Int) | ovr (m:Int)
inductive Gw where
 | at (c:Co) | no (t:Gw) | al (ts:List Gw) | so (ts:List Gw)
structure A8 where
 a0:Addr
 a1:Addr
 a2:Addr
 a3:Addr
 a4:Addr
 a5:Addr
 a6:Addr
 a7:Addr
def A8.l (κ:A8):List Addr:=[κ.a0,κ.a1,κ.a2,κ.a3,κ.a4,κ.a5,κ.a6,κ.a7]
def A8.cl (κ:A8) (i:Nat):Addr:=κ.l.getD i 0
theorem A8.inj {κ:A8} (nd:κ.l.Nodup) {i j:Nat} (hi:i<8) (hj:j<8) (h:κ.cl i=κ.cl j):i=j:=by
 have hl:κ.l.length=8:=rfl;unfold A8.cl at h;rw[zAt,zAt,zAe (by lia),zAe (by lia)] at h;have p:=zBe.mp nd;rcases zBD i j with c | c | c
 ·exact absurd h (p i j (by lia) (by lia) c)
 ·exact c
 ·exact absurd h.symm (p j i (by lia) (by lia) c)
def kd:Gw->Nat
 | .at .alw=>0
 | .at (.cau _)=>1
 | .at (.thi _)=>2
 | .at (.day _ _)=>3
 | .at (.ovr _)=>4
 | .no _=>5
 | .al _=>6
 | .so _=>7
theorem Pa (t:Gw):kd t<8:=by
 cases t with
 | «at» c=>cases c <;> simp [kd]
 | no t=>exact (by decide:5<8)
 | al ts=>exact (by decide:6<8)
 | so ts=>exact (by decide:7<8)
def A8.of (κ:A8) (t:Gw):Addr:=κ.cl (kd t)
def A8.Fam (κ:A8) (C:Addr):Prop:=C=κ.a0\/C=κ.a1\/C=κ.a2\/C=κ.a3\/C=κ.a4\/C=κ.a5\/C=κ.a6\/C=κ.a7
theorem A8.fam (κ:A8) (t:Gw):κ.Fam (κ.of t):=by
 cases t with
 | «at» c=>
  cases c with
  | alw=>exact .inl rfl
  | cau _=>exact .inr (.inl rfl)
  | thi _=>exact .inr (.inr (.inl rfl))
  | day _ _=>exact .inr (.inr (.inr (.inl rfl)))
  | ovr _=>exact .inr (.inr (.inr (.inr (.inl rfl))))
 | no t=>exact .inr (.inr (.inr (.inr (.inr (.inl rfl)))))
 | al ts=>exact .inr (.inr (.inr (.inr (.inr (.inr (.inl rfl))))))
 | so ts=>exact .inr (.inr (.inr (.inr (.inr (.inr (.inr rfl))))))
section
variable {κ:A8} {t:Gw}
theorem QG (nd:κ.l.Nodup) (h:κ.of t=κ.a0):t = .at .alw:=by
 have e:kd t=0:=A8.inj nd (Pa t) (by decide) h;cases t with
 | «at» c=>cases c <;> first | rfl | (simp [kd] at e)
 | _=>simp [kd] at e
theorem QC (nd:κ.l.Nodup) (h:κ.of t=κ.a1):∃ n,t = .at (.cau n):=by
 have e:kd t=1:=A8.inj nd (Pa t) (by decide) h;cases t with
 | «at» c=>cases c <;> first | exact⟨_,rfl⟩ | (simp [kd] at e)
 | _=>simp [kd] at e
theorem QF (nd:κ.l.Nodup) (h:κ.of t=κ.a2):∃ n,t = .at (.thi n):=by
 have e:kd t=2:=A8.inj nd (Pa t) (by decide) h;cases t with
 | «at» c=>cases c <;> first | exact⟨_,rfl⟩ | (simp [kd] at e)
 | _=>simp [kd] at e
theorem QB (nd:κ.l.Nodup) (h:κ.of t=κ.a3):∃ a b,t = .at (.day a b):=by
 have e:kd t=3:=A8.inj nd (Pa t) (by decide) h;cases t with
 | «at» c=>cases c <;> first | exact⟨_,_,rfl⟩ | (simp [kd] at e)
 | _=>simp [kd] at e
theorem QA (nd:κ.l.Nodup) (h:κ.of t=κ.a4):∃ n,t = .at (.ovr n):=by
 have e:kd t=4:=A8.inj nd (Pa t) (by decide) h;cases t with
 | «at» c=>cases c <;> first | exact⟨_,rfl⟩ | (simp [kd] at e)
 | _=>simp [kd] at e
theorem PP (nd:κ.l.Nodup) (h:κ.of t=κ.a5):∃ u,t = .no u:=by
 have e:kd t=5:=A8.inj nd (Pa t) (by decide) h;cases t with
 | «at» c=>cases c <;> simp [kd] at e
 | no u=>exact⟨_,rfl⟩
 | _=>simp [kd] at e
theorem PX (nd:κ.l.Nodup) (h:κ.of t=κ.a6):∃ u,t = .al u:=by
 have e:kd t=6:=A8.inj nd (Pa t) (by decide) h;cases t with
 | «at» c=>cases c <;> simp [kd] at e
 | al u=>exact⟨_,rfl⟩
 | _=>simp [kd] at e
theorem PZ (nd:κ.l.Nodup) (h:κ.of t=κ.a7):∃ u,t = .so u:=by
 have e:kd t=7:=A8.inj nd (Pa t) (by decide) h;cases t with
 | «at» c=>cases c <;> simp [kd] at e
 | so u=>exact⟨_,rfl⟩
 | _=>simp [kd] at e
end
def Kp:Co->List (Str×V)
 | .alw=>[]
 | .cau n=>Bs "name" (.str n) []
 | .thi n=>Bs "name" (.str n) []
 | .day a b=>Bs "last" (.int b) (Bs "first" (.int a) [])
 | .ovr m=>Bs "cents" (.int m) []
mutual
def CdAt (κ:A8) (H:Hp):V->Gw->Prop
 | v,.at c=>∃ p dx,v = .ref p/\H p=some (.ins (κ.of (.at c)) dx (Kp c))
 | v,.no t=>∃ p dx w,v = .ref p/\H p=some (.ins κ.a5 dx (Bs "part" w []))/\CdAt κ H w t
 | v,.al ts=>∃ p dx l vs,v = .ref p/\H p=some (.ins κ.a6 dx (Bs "several" (.ref l) []))/\H l=some (.lst vs)/\CdsAt κ H vs ts
 | v,.so ts=>∃ p dx l vs,v = .ref p/\H p=some (.ins κ.a7 dx (Bs "several" (.ref l) []))/\H l=some (.lst vs)/\CdsAt κ H vs ts
def CdsAt (κ:A8) (H:Hp):List V->List Gw->Prop
 | [],[]=>True
 | v::vs,t::ts=>CdAt κ H v t/\CdsAt κ H vs ts
 | [],_::_=>False
 | _::_,[]=>False
end
mutual
def TrAt (H:Hp):V->Gw->Prop
 | v,.at .alw=>∃ p,v = .ref p/\H p=some (.tup [.str "always"])
 | v,.at (.cau n)=>∃ p,v = .ref p/\H p=some (.tup [.str "cause",.str n])
 | v,.at (.thi n)=>∃ p,v = .ref p/\H p=some (.tup [.str "thing",.str n])
 | v,.at (.day a b)=>∃ p,v = .ref p/\H p=some (.tup [.str "days",.int a,.int b])
 | v,.at (.ovr m)=>∃ p,v = .ref p/\H p=some (.tup [.str "over",.int m])
 | v,.no t=>∃ p w,v = .ref p/\H p=some (.tup [.str "not",w])/\TrAt H w t
 | v,.al ts=>∃ p l vs,v = .ref p/\H p=some (.tup [.str "all",.ref l])/\H l=some (.lst vs)/\TrsAt H vs ts
 | v,.so ts=>∃ p l vs,v = .ref p/\H p=some (.tup [.str "some",.ref l])/\H l=some (.lst vs)/\TrsAt H vs ts
def TrsAt (H:Hp):List V->List Gw->Prop
 | [],[]=>True
 | v::vs,t::ts=>TrAt H v t/\TrsAt H vs ts
 | [],_::_=>False
 | _::_,[]=>False
end
mutual
def Ow:Gw->Nat
 | .at _=>0
 | .no t=>Ow t+1
 | .al ts=>hgts ts+1
 | .so ts=>hgts ts+1
def hgts:List Gw->Nat
 | []=>0
 | t::ts=>max (Ow t) (hgts ts)
end
structure LS where
 d:Int
 th:Str
 ca:Str
 ct:Int
def JH:Co->LS->Bool
 | .alw,_=>true
 | .cau n,x=>decide (V.str x.ca=V.str n)
 | .thi n,x=>decide (V.str x.th=V.str n)
 | .day a b,x=>decide (a<=x.d)&&decide (x.d<=b)
 | .ovr m,x=>decide (m<x.ct)
mutual
def hT:Gw->LS->Bool
 | .at c,x=>JH c x
 | .no t,x => !hT t x
 | .al ts,x=>hAll ts x
 | .so ts,x=>hSom ts x
def hAll:List Gw->LS->Bool
 | [],_=>true
 | t::ts,x=>hT t x&&hAll ts x
def hSom:List Gw->LS->Bool
 | [],_=>false
 | t::ts,x=>hT t x||hSom ts x
end
mutual
theorem CdAt.same {κ:A8} {H H':Hp} (s:Same H H'):∀ {v:V} (t:Gw),CdAt κ H v t->CdAt κ H' v t
 | v,.at c,h=>by
  unfold CdAt at h ⊢;obtain⟨p,dx,e,h⟩:=h;exact⟨p,dx,e,s _ _ h⟩
 | v,.no t,h=>by
  unfold CdAt at h ⊢;obtain⟨p,dx,w,e,h,r⟩:=h;exact⟨p,dx,w,e,s _ _ h,CdAt.same s t r⟩
 | v,.al ts,h=>by
  unfold CdAt at h ⊢;obtain⟨p,dx,l,vs,e,h,g,r⟩:=h;exact⟨p,dx,l,vs,e,s _ _ h,s _ _ g,CdsAt.same s ts r⟩
 | v,.so ts,h=>by
  unfold CdAt at h ⊢;obtain⟨p,dx,l,vs,e,h,g,r⟩:=h;exact⟨p,dx,l,vs,e,s _ _ h,s _ _ g,CdsAt.same s ts r⟩
theorem CdsAt.same {κ:A8} {H H':Hp} (s:Same H H'):∀ {vs:List V} (ts:List Gw),CdsAt κ H vs ts->CdsAt κ H' vs ts
 | [],[],_=>by unfold CdsAt; trivial
 | v::vs,t::ts,h=>by
  unfold CdsAt at h ⊢;exact⟨CdAt.same s t h.1,CdsAt.same s ts h.2⟩
 | [],_::_,h=>by unfold CdsAt at h; exact h.elim
 | _::_,[],h=>by unfold CdsAt at h; exact h.elim
end
mutual
theorem TrAt.same {H H':Hp} (s:Same H H'):∀ {v:V} (t:Gw),TrAt H v t->TrAt H' v t
 | v,.at .alw,h=>by unfold TrAt at h ⊢; obtain⟨p,e,h⟩:=h; exact⟨p,e,s _ _ h⟩
 | v,.at (.cau n),h=>by unfold TrAt at h ⊢; obtain⟨p,e,h⟩:=h; exact⟨p,e,s _ _ h⟩
 | v,.at (.thi n),h=>by unfold TrAt at h ⊢; obtain⟨p,e,h⟩:=h; exact⟨p,e,s _ _ h⟩
 | v,.at (.day a b),h=>by unfold TrAt at h ⊢; obtain⟨p,e,h⟩:=h; exact⟨p,e,s _ _ h⟩
 | v,.at (.ovr m),h=>by unfold TrAt at h ⊢; obtain⟨p,e,h⟩:=h; exact⟨p,e,s _ _ h⟩
 | v,.no t,h=>by
  unfold TrAt at h ⊢;obtain⟨p,w,e,h,r⟩:=h;exact⟨p,w,e,s _ _ h,TrAt.same s t r⟩
 | v,.al ts,h=>by
  unfold TrAt at h ⊢;obtain⟨p,l,vs,e,h,g,r⟩:=h;exact⟨p,l,vs,e,s _ _ h,s _ _ g,TrsAt.same s ts r⟩
 | v,.so ts,h=>by
  unfold TrAt at h ⊢;obtain⟨p,l,vs,e,h,g,r⟩:=h;exact⟨p,l,vs,e,s _ _ h,s _ _ g,TrsAt.same s ts r⟩
theorem TrsAt.same {H H':Hp} (s:Same H H'):∀ {vs:List V} (ts:List Gw),TrsAt H vs ts->TrsAt H' vs ts
 | [],[],_=>by unfold TrsAt; trivial
 | v::vs,t::ts,h=>by
  unfold TrsAt at h ⊢;exact⟨TrAt.same s t h.1,TrsAt.same s ts h.2⟩
 | [],_::_,h=>by unfold TrsAt at h; exact h.elim
 | _::_,[],h=>by unfold TrsAt at h; exact h.elim
end
theorem CdsAt.len {κ:A8} {H:Hp}:∀ {vs:List V} {ts:List Gw},CdsAt κ H vs ts->vs.length=ts.length
 | [],[],_=>rfl
 | v::vs,t::ts,h=>by
  unfold CdsAt at h;rw[zAg,zAg,CdsAt.len h.2]
 | [],_::_,h=>by unfold CdsAt at h; exact h.elim
 | _::_,[],h=>by unfold CdsAt at h; exact h.elim
theorem TrsAt.len {H:Hp}:∀ {vs:List V} {ts:List Gw},TrsAt H vs ts->vs.length=ts.length
 | [],[],_=>rfl
 | v::vs,t::ts,h=>by
  unfold TrsAt at h;rw[zAg,zAg,TrsAt.len h.2]
 | [],_::_,h=>by unfold TrsAt at h; exact h.elim
 | _::_,[],h=>by unfold TrsAt at h; exact h.elim
theorem CdsAt.get {κ:A8} {H:Hp}:∀ {vs:List V} {ts:List Gw} {i:Nat} {v:V},CdsAt κ H vs ts->vs[i]?=some v->∃ t,ts[i]?=some t/\CdAt κ H v t
 | [],[],_,_,_,e=>by simp at e
 | v::vs,t::ts,0,u,h,e=>by
  unfold CdsAt at h;simp at e;subst e;exact⟨t,rfl,h.1⟩
 | v::vs,t::ts,i+1,u,h,e=>by
  unfold CdsAt at h;obtain⟨t',e',r⟩:=CdsAt.get (i:=i) h.2 (by simpa using e);exact⟨t',by simpa using e',r⟩
 | [],_::_,_,_,h,_=>by unfold CdsAt at h; exact h.elim
 | _::_,[],_,_,h,_=>by unfold CdsAt at h; exact h.elim
theorem TrsAt.get {H:Hp}:∀ {vs:List V} {ts:List Gw} {i:Nat} {v:V},TrsAt H vs ts->vs[i]?=some v->∃ t,ts[i]?=some t/\TrAt H v t
 | [],[],_,_,_,e=>by simp at e
 | v::vs,t::ts,0,u,h,e=>by
  unfold TrsAt at h;simp at e;subst e;exact⟨t,rfl,h.1⟩
 | v::vs,t::ts,i+1,u,h,e=>by
  unfold TrsAt at h;obtain⟨t',e',r⟩:=TrsAt.get (i:=i) h.2 (by simpa using e);exact⟨t',by simpa using e',r⟩
 | [],_::_,_,_,h,_=>by unfold TrsAt at h; exact h.elim
 | _::_,[],_,_,h,_=>by unfold TrsAt at h; exact h.elim
theorem CdsAt.snoc {κ:A8} {H:Hp}:∀ {vs:List V} {ts:List Gw} {v:V} {t:Gw},CdsAt κ H vs ts->CdAt κ H v t->CdsAt κ H (vs++[v]) (ts++[t])
 | [],[],v,t,_,r=>by
  show CdsAt κ H [v] [t];unfold CdsAt;exact⟨r,by unfold CdsAt; trivial⟩
 | v::vs,t::ts,v',t',h,r=>by
  unfold CdsAt at h;show CdsAt κ H (v::(vs++[v'])) (t::(ts++[t']));unfold CdsAt;exact⟨h.1,CdsAt.snoc h.2 r⟩
 | [],_::_,_,_,h,_=>by unfold CdsAt at h; exact h.elim
 | _::_,[],_,_,h,_=>by unfold CdsAt at h; exact h.elim
theorem Qb {ts:List Gw} {t:Gw} {m:Nat} (h:hgts ts<m) (i:Nat) (e:ts[i]?=some t):Ow t<m:=by
 induction ts generalizing i with
 | nil=>simp at e
 | cons u us ih=>
  unfold hgts at h;cases i with
  | zero=>simp at e; subst e; lia
  | succ i=>exact ih (by lia) i (by simpa using e)
theorem AG {ts:List Gw} {t:Gw} {x:LS} {i:Nat} (e:ts[i]?=some t):hAll (ts.drop i) x=(hT t x&&hAll (ts.drop (i+1)) x):=by
 rw[zBu (zAi.mp e).1,(zAi.mp e).2,hAll]
theorem W2 {ts:List Gw} {t:Gw} {x:LS} {i:Nat} (e:ts[i]?=some t):hSom (ts.drop i) x=(hT t x||hSom (ts.drop (i+1)) x):=by
 rw[zBu (zAi.mp e).1,(zAi.mp e).2,hSom]
theorem NT:¬ (("first" : Str) = "last"):=by decide +kernel
theorem AZ (n:Str):(Kp (.cau n)).lookup ("name" : Str)=some (.str n):=by unfold Kp; rw[Bi,if_pos rfl]
theorem AU (n:Str):(Kp (.thi n)).lookup ("name" : Str)=some (.str n):=by unfold Kp; rw[Bi,if_pos rfl]
theorem GM (a b:Int):(Kp (.day a b)).lookup ("last" : Str)=some (.int b):=by unfold Kp; rw[Bi,if_pos rfl]
theorem DL (a b:Int):(Kp (.day a b)).lookup ("first" : Str)=some (.int a):=by unfold Kp; rw[Bi,if_neg NT,Bi,if_pos rfl]
theorem EG (m:Int):(Kp (.ovr m)).lookup ("cents" : Str)=some (.int m):=by unfold Kp; rw[Bi,if_pos rfl]
theorem F2 (f:Str) (v:V):(Bs f v []).lookup f=some v:=by rw[Bi,if_pos rfl]
theorem Fp {f g:Str} (h:¬ g=f) (v:V):(Bs f v []).lookup g=none:=by rw[Bi,if_neg h]; rfl
theorem R6 (c:Co) {m:Str} (h1:¬ m = "name") (h2:¬ m = "first") (h3:¬ m = "last") (h4:¬ m = "cents"):(Kp c).lookup m=none:=by
 cases c with
 | alw=>rfl
 | cau n=>unfold Kp; rw[Bi,if_neg h1]; rfl
 | thi n=>unfold Kp; rw[Bi,if_neg h1]; rfl
 | day a b=>unfold Kp; rw[Bi,if_neg h3,Bi,if_neg h2]; rfl
 | ovr m=>unfold Kp; rw[Bi,if_neg h4]; rfl
theorem CdAt.obj {κ:A8} {H:Hp} {v:V} {t:Gw} (h:CdAt κ H v t):∃ p dx fs,v = .ref p/\H p=some (.ins (κ.of t) dx fs) /\
  fs.lookup ("holds" : Str)=none/\fs.lookup ("rank" : Str)=none/\fs.lookup ("words" : Str)=none/\fs.lookup ("marks" : Str)=none:=by
 cases t with
 | «at» c=>
  unfold CdAt at h;obtain⟨p,dx,e,h⟩:=h;exact⟨p,dx,_,e,h,R6 c (by decide +kernel) (by decide +kernel) (by decide +kernel) (by decide +kernel),R6 c (by decide +kernel) (by decide +kernel) (by decide +kernel) (by decide +kernel),R6 c (by decide +kernel) (by decide +kernel) (by decide +kernel) (by decide +kernel),R6 c (by decide +kernel) (by decide +kernel) (by decide +kernel) (by decide +kernel)⟩
 | no t=>
  unfold CdAt at h;obtain⟨p,dx,w,e,h,_⟩:=h;exact⟨p,dx,_,e,h,Fp (by decide +kernel) _,Fp (by decide +kernel) _,Fp (by decide +kernel) _,Fp (by decide +kernel) _⟩
 | al ts=>
  unfold CdAt at h;obtain⟨p,dx,l,vs,e,h,_⟩:=h;exact⟨p,dx,_,e,h,Fp (by decide +kernel) _,Fp (by decide +kernel) _,Fp (by decide +kernel) _,Fp (by decide +kernel) _⟩
 | so ts=>
  unfold CdAt at h;obtain⟨p,dx,l,vs,e,h,_⟩:=h;exact⟨p,dx,_,e,h,Fp (by decide +kernel) _,Fp (by decide +kernel) _,Fp (by decide +kernel) _,Fp (by decide +kernel) _⟩
def Nw (H H':Hp):Hp:=fun b=>match H b with
 | none=>H' b
 | some _=>none
theorem Nw.of {H H':Hp} {b:Addr} {o:HO} (h:H b=none) (e:H' b=some o):Nw H H' b=some o:=by
 unfold Nw;rw[h];exact e
theorem Nw.at {H H':Hp} {b:Addr} {o:HO} (e:Nw H H' b=some o):H b=none/\H' b=some o:=by
 unfold Nw at e;cases h:H b with
 | none=>rw[h] at e; exact⟨rfl,e⟩
 | some o'=>rw[h] at e; cases e
theorem Nw.grow {H H1 H2:Hp} (s:∀ b o,H b=none->H1 b=some o->H2 b=some o):Same (Nw H H1) (Nw H H2):=fun b o e=>Nw.of (Nw.at e).1 (s b o (Nw.at e).1 (Nw.at e).2)
def ML (H:Hp) (t:Addr) (x:LS):Prop:=∃ ev,∃ n:Int,H t=some (.tup [.int n,.int x.d,.str ev,.str x.th,.str x.ca,.int x.ct])
mutual
def Ng (φ:Co->Prop):Gw->Prop
 | .at c=>φ c
 | .no t=>Ng φ t
 | .al ts=>2<=ts.length/\ts.length<=8/\okTs φ ts
 | .so ts=>2<=ts.length/\ts.length<=8/\okTs φ ts
def okTs (φ:Co->Prop):List Gw->Prop
 | []=>True
 | t::ts=>Ng φ t/\okTs φ ts
end
theorem U8 {φ:Co->Prop} {ts:List Gw} (h:∀ t∈ts,Ng φ t):okTs φ ts:=by
 induction ts with
 | nil=>unfold okTs; trivial
 | cons t ts ih=>unfold okTs; exact⟨h t zAj,ih fun u hu=>h u (zAf _ hu)⟩
theorem U4 {φ:Co->Prop} {ts:List Gw} (h:okTs φ ts):∀ t∈ts,Ng φ t:=by
 induction ts with
 | nil=>intro t ht; cases ht
 | cons t ts ih=>
  unfold okTs at h;intro u hu;rcases zAn.mp hu with rfl | hu
  ·exact h.1
  ·exact ih h.2 u hu
section
variable {R R':V->Gw->Prop} {vs ws:List V} {ts us:List Gw}
end
theorem HQ {c:Prop} {inst:Decidable c} {t u:TS} {D:Om} {σ:St} {H:Hp} (G:St->Hp->Prop)
  (h1:c->∀ N:St->Hp->Prop,(∀ σ' H',G σ' H'->N σ' H')->t { D with nx:=N } σ H) (h2:¬ c->∀ N:St->Hp->Prop,(∀ σ' H',G σ' H'->N σ' H')->u { D with nx:=N } σ H)
  (R:∀ σ' H',G σ' H'->D.nx σ' H'):@ite Prop c inst (t D σ H) (u D σ H):=by
 by_cases z:c
 ·rw[if_pos z]; exact h1 z _ R
 ·rw[if_neg z]; exact h2 z _ R
section
variable {wc:Co->List Str} {φ:Co->Prop}
end
section
variable {X:Cx} {k:Nat} {C:Addr} {m:Str} {ps:List Str} {sp:Sp} {e o:Expr} {es:List Expr} {apos pos:Pos} {ta:TE} {t:TA} {W:St->XK}
end
section
variable {wc:Co->List Str} {φ:Co->Prop} {af:List Str->Nat->Prop}
end
end L2
namespace L2
open PySem PySem.Spec PyProof PyProof.Rows
section
variable {X:Cx} {pins:List (Addr×Obj)} {σ:St} {H:Hp} {s:Shared} {e:Addr}
end
section
variable {M:Model} {A:Around} {E:Value->Shared->Prop} {env:Env}
variable {nm q:Str} {C N:Addr} {bs bm:List Value} {hdct:Bool} {sn:List Str} {sub:List Value} {ab:Bool} {col:Option Bool} {dd:Option Addr} {k0 k1 k2 k3 k5:Option Value} {newId:String}
end
section
variable {X:Cx} {x f:Str} {C:Addr} {np cpos pos apos:Pos} {e o value:Expr} {es:List Expr} {t:TA} {ta tv:TE} {W:St->XK}
end
section
variable {prog:Program} {w:World} {A:Around} {E:Value->Shared->Prop} {env:Env}
variable {nm q:Str} {C N:Addr} {bs bm:List Value} {hdct:Bool} {sn:List Str} {sub:List Value} {ab:Bool} {col:Option Bool} {dd:Option Addr} {k0 k1 k2 k3 k5:Option Value} {newId:String}
end
section
variable {X:Cx} {x f:Str} {C:Addr} {np cpos pos apos cp:Pos} {j:Nat} {e o value:Expr} {es:List Expr} {t:TA} {ta tv:TE} {W:St->XK}
end
section
variable {X:Cx} {x n:Str} {Ch:Addr} {i:Nat} {body suite:List Stmt} {b₀ : Stmt} {tb:(St->XK)->TS} {ts:TS} {np hpos pos:Pos} {pins:List (Addr×Obj)} {σ:St} {H:Hp} {s:Shared} {e:Addr} {oe:Obj}
end
theorem Ki {X:Cx} {K:zAa} {f:Str} {pos:Pos} {e:Expr} {ta:TE} (he:PE X e ta) (hb:attributeBase e f X.env (eval e X.env)=eval e X.env) (hK:X.K=K:=by rfl):PE X (.Attribute e f pos) (LK K ta f):=hK▸Cp he hb
end L2
namespace CST
open PySem
section
variable {prog:Program} {w:World} {A:Around} {E:Value->Shared->Prop} {s:Shared}
variable {R:Result->Shared->Prop} {I:Addr} {fp wr:List Addr} {G:Array GenState->Array GenState->Prop} {n:Nat} {P:Nat->Value->Prop} {St:Nat->Shared->Prop}
theorem GSet.keepS {h h':Heap} {a:Addr} {ks:List Str} (g:GSet (strKind prog w) h a ks) (k:∀ o,h.get? a=some o->h'.get? a=some o):GSet (strKind prog w) h' a ks:=by
 obtain⟨o,es,ep,t,ho,r⟩:=g;exact⟨o,es,ep,t,k o ho,r⟩
theorem Xk (W:WalksS prog w A.in1 I fp wr G n P St) (S:Addr) (nS:S∉fp) (val:Nat->Str) (hv:∀ i v,P i v->∃ t,v = .str (val i) t) (hb:n+1<scanBound) :
  ∀ (k i:Nat) (s:Shared) (ks:List Str),n-i=k->i<=n->St i s->GSet (strKind prog w) s.heap S ks->(∀ y,y∈ks↔∃ j,j<i/\val j=y)->ks.length<=i ->
   (∀ s' ks',Moved (S::wr) G s s'->GSet (strKind prog w) s'.heap S ks'->(∀ y,y∈ks'↔∃ j,j<n/\val j=y)->ks'.length<=n->R (.ok (.ret .none)) s') ->
   codeAny (model prog w) A (.builtin "set.update.loop" ⟨[.ref S,.ref I],[]⟩) R s:=by
 have nw:S∉wr:=fun z=>nS (W.sub _ z);have sub:∀ b∈wr,b∈S::wr:=fun b hb=>zAf _ hb;intro k
 induction k with
 | zero=>
  intro i s ks hk hi st g mem len fin;have e:i=n:=by lia
  subst e;refine codeAny_builtin PyProof.Rows.F.entry_set_update_loop ?_;rw[Around.under_plainId PyProof.Rows.F.plain_set_update_loop _];show wpAny _ A.in1 (pyNext (.ref I) >>= _) _ _ s;refine zCC (W.done s _ _ st fun s' hm=>?_);show wpAny _ A.in1 (ret Value.none) _ _ s';exact zCD (fin s' ks (hm.mono sub) (GSet.keepS g fun o e=>hm.heap S o nw e) mem len)
 | succ k ih=>
  intro i s ks hk hi st g mem len fin;refine codeAny_builtin PyProof.Rows.F.entry_set_update_loop ?_;rw[Around.under_plainId PyProof.Rows.F.plain_set_update_loop _];show wpAny _ A.in1 (pyNext (.ref I) >>= _) _ _ s;refine zCC (W.item i s _ _ (by lia) st fun v s' hP st' hm=>?_);obtain⟨tk,rfl⟩:=hv i v hP;have g':=GSet.keepS g fun o e=>hm.heap S o nw e;show wpAny _ A.in1 (holding [Value.str (val i) tk] (setAdd S (.str (val i) tk)) >>= _) _ _ s';refine zCC (wpAny_holding ?_);unfold setAdd;refine wpAny_holding (zCC ((strKind prog w).pyHash (k:=val i) (strKind_is _ _ _ _) ?_));refine IC (knd:=strKind prog w) (s:={ s' with toks:=s'.toks+1 }) (strKind_is _ _ _ _) rfl g' (by lia) fun b h' ks' sb g2 pm=>?_;have len':ks'.length<=i+1:=by
   rw[pm.length_eq]
   split
   ·lia
   ·rw[zAo,List.length_singleton]; lia
  have mem':∀ y,y∈ks'↔∃ j,j<i+1/\val j=y:=fun y=>by
   rw[pm.mem_iff];constructor
   ·intro hy
    split at hy
    ·obtain⟨j,h1,h2⟩:=(mem y).mp hy
     exact⟨j,by lia,h2⟩
    ·rcases zAy.mp hy with z | z
     ·obtain⟨j,h1,h2⟩:=(mem y).mp z
      exact⟨j,by lia,h2⟩
     ·exact⟨i,by lia,(zAk.mp z).symm⟩
   ·rintro ⟨j,h1,h2⟩
    have old:∀ {z},z∈ks->z∈(if val i∈ks then ks else ks++[val i]):=fun {z} hz=>by
     split
     ·exact hz
     ·exact zCb _ hz
    by_cases c:j<i
    ·exact old ((mem y).mpr ⟨j,c,h2⟩)
    ·have e:j=i:=by lia
     subst e
     split
     ·rw[<- h2]; assumption
     ·rw[<- h2]; exact zAR _ (zAk.mpr rfl)
  refine zCD ⟨plainId_quiet PyProof.Rows.F.plain_set_update_loop _,ih (i+1) _ ks' (by lia) (by lia) (W.frame _ s' _ _ st' (zBl _) fun b hb o e=>?_) g2 mem' len' fun s2 ks2 hm2 g3 m3 l3=>?_⟩
  ·rw[sb.2 b (fun z:b=S=>nS (by rw[<- z]; exact hb))]; exact e
  ·refine fin s2 ks2 (Moved.trans W.gtrans ((hm.mono sub).then_heap (zBl _) fun b o hb e=>?_) hm2) g3 m3 l3
   rw[sb.2 b (fun z:b=S=>hb (by rw[z]; exact zAj))]; exact e
end
section
variable {prog:Program} {w:World} {A:Around} {E:Value->Shared->Prop} {s:Shared}
theorem Z0 {h:Heap} {a:Addr} (ho:h.get? a=some (Ht w)):GSet (strKind prog w) h a []:=by
 refine⟨_,#[],0,_,ho,⟨rfl,rfl,rfl⟩,rfl,.nil,zCt,by decide,rfl,?_⟩;exact Tc (w.params.followText "set-order")
theorem set_of_strs {l:Addr} {items:Array Value} {ns:List Str} {Q:Value->Shared->Prop} (hh:A.handled=none) (hl:s.heap.IsList l items) (hi:∀ (i:Nat) (v:Value),items[i]?=some v->∃ t,v = .str (ns.getD i Str.empty) t) (ln:items.size=ns.length) (hb:items.size+1<scanBound)
  (h:∀ (h':Heap) (tk:Nat) (ks:List Str),GSet (strKind prog w) h' s.heap.objs.size ks->(∀ y,y∈ks↔y∈ns)->ks.length<=items.size->(∀ b o,s.heap.get? b=some o->h'.get? b=some o)->Q (.ref s.heap.objs.size) { s with heap:=h',toks:=tk }) :
  wpAny (model prog w) A (call (.type "set") [.ref l]) Q E s:=by
 obtain⟨c,tl,hmro⟩:=F.called_set.mro;have hmade:=F.called_set.made;have hsub:=F.called_set.sub;have h1:=F.called_set.notType;have h2:=F.called_set.canCreate;have hct:=F.typeCall_set_1 (.ref l);refine wpAny_call (codeAny_of_tree (show wpAny _ _ (callAny (.type "set") _) _ _ _ from ?_));refine zCD ⟨Code.quiet_builtin _ (by decide +kernel),codeAny_builtin F.entry_type_call ?_⟩;rw[Around.under_plain (weight_type_call_type "set" [.ref l] []) rfl]
 repeat (any_goals (first | assumption | wp_step))
 refine codeAny_mono (U1 (x:=.ref l) (E:=E) (Q:=fun v s₁ => v = .ref s.heap.objs.size/\s₁ = { s with heap:=s.heap.push (Ht w) }) ⟨rfl,rfl⟩) fun r s₁ hr=>?_;cases r with
 | error e=>exact hr
 | ok fl=>
  cases fl with
  | ret obj=>
   obtain⟨rfl,rfl⟩:=hr;have at0:(s.heap.push (Ht w)).get? s.heap.objs.size=some (Ht w):=zAu _ rfl;have hT:Shared.TypeIs { s with heap:=s.heap.push (Ht w) } (.ref s.heap.objs.size) "set" := ⟨_,at0,rfl⟩;have hli:=F.called_set.init.lookup;have hbi:=F.called_set.init.bind (.ref s.heap.objs.size)
   repeat (any_goals (first | assumption | wp_step))
   refine codeAny_mono (codeAny_call_builtin (R:=wants (fun r s₂ => r = .none/\∃ h' tk ks,s₂ = { s with heap:=h',toks:=tk }/\GSet (strKind prog w) h' s.heap.objs.size ks/\(∀ y,y∈ks↔y∈ns)/\ks.length<=items.size/\(∀ b o,s.heap.get? b=some o->h'.get? b=some o)) E)
    F.called_set.init.plain F.entry_set_init (check_set_init_1 hT ?_)) fun r₂ s₂ hr₂ => ?_
   ·obtain⟨⟨oc,od,odt,osl⟩,hol,hcl,nl,hdl⟩:=id hl
    simp only at hcl hdl;subst hcl hdl;have old:(s.heap.push (Ht w)).get? l=some { cls:=.type "list",dict:=od,data:=.seq items nl,slots:=osl }:=zAd _ hol;have il:(s.heap.push (Ht w)).IsList l items:=⟨_,old,rfl,nl,rfl⟩;have lt:l<s.heap.objs.size:=zAp hol;have u1:=F.sub_list_set;have u2:=F.sub_list_frozenset;have u3:(Value.type "list" == Value.type "dict")=false:=by decide
    unfold Builtin.«set.__init__» noKeywords Builtin.Frozenset.updateFrom;generalize hPI:pyIter=PI
    wp_walk
    subst hPI;refine wpAny_pyIter_list il (zCC (wpAny_runValue ?_));have sz:(s.heap.push (Ht w)).objs.size=s.heap.objs.size+1:=zBn ..;have ne:l≠(s.heap.push (Ht w)).objs.size:=by rw[sz]; exact zAw (zBw lt)
    have h3:A.in1.in1.in1.handled=none:=by simp [hh]
    have nf:s.heap.objs.size∉[(s.heap.push (Ht w)).objs.size,l]:=by
     rw[sz];intro z;rcases zAn.mp z with z | z
     ·exact absurd z (zAw (zBx _))
     ·exact absurd (zAk.mp z) (zBk lt)
    have hv:∀ (i:Nat) (v:Value),items[i]?=some v->∃ t,v = .str ((fun i=>ns.getD i Str.empty) i) t:=hi;refine Xk ((Walks.list h3 _ l ne items).toS) s.heap.objs.size nf (fun i=>ns.getD i Str.empty) hv hb (items.size-0) 0 _ [] (by lia) (zAD _) ⟨⟨_,zAu _ rfl,rfl,rfl⟩,il.push _⟩ (Z0 (zAd _ at0)) (fun y=>⟨fun z=>(nomatch z),fun ⟨j,z,_⟩=>absurd z (zBq _)⟩) (zAD _) fun s' ks hm g m ln'=>?_;obtain⟨h',g',d',tk',os'⟩:=s';have eg:g'=s.gens:=hm.gens;have ed:d'=s.drawn:=hm.drawn;have eo:os'=s.os:=hm.os;subst eg ed eo;refine zCD (zCD ⟨rfl,h',tk',ks,rfl,g,fun y=>?_,ln',fun b o e=>?_⟩)
    ·rw[m y]
     constructor
     ·rintro ⟨j,z1,z2⟩
      rw[<- z2];show ns.getD j Str.empty∈ns;rw[zAt,zAe (by lia)];exact zBc _
     ·intro z
      obtain⟨j,hj,e⟩:=zAY z;refine⟨j,by lia,?_⟩;show ns.getD j Str.empty=y;rw[zAt,zAe hj];exact e
    ·refine hm.heap b o (fun z=>?_) (zAd _ (zAd _ e))
     have lb:=zAp e;rcases zAn.mp z with z | z
     ·exact absurd z (zAw lb)
     ·exact absurd (zAk.mp z) (by rw[sz]; exact zAw (zBw lb))
   ·cases r₂ with
    | error e=>exact hr₂
    | ok fl₂ =>
     cases fl₂ with
     | ret r=>
      obtain⟨rfl,h',tk,ks,rfl,g,m,ln,k⟩:=hr₂
      repeat (any_goals (first | assumption | wp_step))
      exact h _ _ ks g m ln k
     | _=>exact hr₂.elim
  | _=>exact hr.elim
end
end CST
namespace L2
open PySem PySem.Spec PyProof PyProof.Rows
section
variable {α:Type} [DecidableEq α]
theorem Nb:∀ {ks ss:List α},ks.Nodup->(∀ y∈ks,y∈ss)->ks.length<=ss.length
 | [],_,_,_=>zAD _
 | k::ks,ss,nd,h=>by
  rw[zAX] at nd;have hk:=h k zAj;have ih:=Nb (ks:=ks) (ss:=ss.erase k) nd.2 fun y hy=>(zCf (fun z=>nd.1 (by rw[<- z]; exact hy))).mpr (h y (zAf _ hy));rw[zBH hk] at ih;have:0<ss.length:=zBR hk;rw[zAg]
  lia
theorem Zr:∀ {ss:List α},¬ ss.Nodup->∃ x,x∈ss/\x∈ss.erase x
 | [],h=>absurd zCt h
 | y::t,h=>by
  by_cases c:y∈t
  ·exact⟨y,zAj,by rw[List.erase_cons_head]; exact c⟩
  ·obtain⟨x,h1,h2⟩:=Zr (ss:=t) (fun z=>h (zAX.mpr ⟨c,z⟩))
   have ne:¬ (y==x)=true:=fun z=>c (by rw[beq_iff_eq.mp z]; exact h1);exact⟨x,zAf _ h1,by rw[List.erase_cons_tail ne]; exact zAf _ h2⟩
theorem EI {ks ss:List α} (nd:ks.Nodup) (m:∀ y,y∈ks↔y∈ss):(ss.Nodup->ks.length=ss.length)/\(¬ ss.Nodup->ks.length<ss.length):=by
 refine⟨fun h=>Nat.le_antisymm (Nb nd fun y hy=>(m y).mp hy) (Nb h fun y hy=>(m y).mpr hy),fun h=>?_⟩;obtain⟨x,h1,h2⟩:=Zr h;have:=Nb (ss:=ss.erase x) nd fun y hy=>by
  by_cases c:y=x
  ·rw[c]; exact h2
  ·exact (zCf c).mpr ((m y).mp hy)
 rw[zBH h1] at this;have:0<ss.length:=zBR h1
 lia
end
theorem P7:∀ {ss:List Str} {us:List Value},Vals (ss.map V.str) us->∀ (i:Nat) (v:Value),us[i]?=some v->∃ t,v = .str (ss.getD i Str.empty) t
 | [],_,.nil,i,v,e=>by simp at e
 | _::_,_::_,.cons r _,0,v,e=>by
  simp at e;subst e;obtain⟨t,rfl⟩:=r;exact⟨t,rfl⟩
 | _::ss,_::us,.cons _ q,i+1,v,e=>by
  obtain⟨t,rfl⟩:=P7 q i v (by simpa using e);exact⟨t,by simp⟩
def HG (K:zAa) (te:TE):TE:=fun σ H Q=>te σ H fun x H1=>∃ a ss,x = .ref a/\SqL K H1 a (List.map V.str ss)/\ss.length<60/\∀ n:Nat,(ss.Nodup->n=ss.length)->(¬ ss.Nodup->n<ss.length)->Q (.int (n:Int)) H1
section
variable {X:Cx}
theorem X1 {e:Expr} {te:TE} {p1 p2 pos1 pos2:Pos} (he:PE X e te) (hc:X.calm=true) (hg1:Gl X "len") (hm1:X.mg "len" = none) (hg2:Gl X "set") (hm2:X.mg "set" = none)
  (hv1:zCF "len" = some (.builtin "len"):=by rfl) (hv2:zCF "set" = some (.type "set"):=by rfl)
  (hs1:starEach [.Call (.Name "set" p2) [e] [] pos2] X.env=[(false,eval (.Call (.Name "set" p2) [e] [] pos2) X.env)]:=by rfl) (hs2:starEach [e] X.env=[(false,eval e X.env)]:=by rfl) :
  PE X (.Call (.Name "len" p1) [.Call (.Name "set" p2) [e] [] pos2] [] pos1) (HG X.K te):=by
 intro pins s σ H Q I h;refine wpAny_Call_Name_kw (Hg I hg1 hm1 hv1 ?_ (by decide) (by decide));refine PyProof.Rows.callWith_builtin1 ?_ hs1 rfl;rw[hs1];show wpAny _ _ (spliced ((false,eval (.Call (.Name "set" p2) [e] [] pos2) X.env)::backTo pos1 [])) _ _ s;refine Calls.spliced_cons ?_;refine wpAny_Call_Name_kw (Hg I hg2 hm2 hv2 ?_ (by decide) (by decide));refine PyProof.Rows.callWith_type1 ?_ hs2 rfl;rw[hs2];show wpAny _ _ (spliced ((false,eval e X.env)::backTo pos2 [])) _ _ s;refine Calls.spliced_cons (Cw (he pins s σ H _ I h) fun u s1 ⟨x,H1,I1,r1,a,ss,ex,hq,l60,q⟩=>?_);subst ex;cases r1;refine Calls.spliced_nil ?_;obtain⟨its,rv,pl,hz⟩:=I1.list hq;have hl:=rv.length;rw[zAb] at hl;have hh:X.A.handled=none:=I.ok.hd hc;have hv:∀ (i:Nat) (v:Value),its.toArray[i]?=some v->∃ t,v = .str (ss.getD i Str.empty) t:=fun i v e=>by
  rw[zCa] at e;exact P7 rv i v e
 refine CST.set_of_strs (items:=its.toArray) (ns:=ss) hh pl.isList hv (by rw[zAh]; exact hl.symm) (by rw[zAh]; unfold scanBound; lia) fun h2 tk ks g mem len k2=>?_;refine Calls.spliced_nil ?_;rw[zAh] at len;obtain⟨o,es,ep,t,ho,hex,hd,hp,nd,hsz,hf,_⟩:=g;obtain⟨z1,z2⟩:=EI nd mem;have le:es.size=ks.length:=by rw[<- zAC]; exact hp.length
 refine call_len_set (s:={ s1 with heap:=h2,toks:=tk }) ho hex hd hf (by lia) ?_;exact⟨.int (ks.length:Int),H1,I1.kept (h':=h2) k2,⟨_,by rw[le]⟩,q ks.length z1 z2⟩
end
end L2
namespace L2
open PySem PySem.Spec PyProof.Rows PySem.W
section
variable {prog:Program} {w:World} {A:Around} {E:Value->Shared->Prop} {s:Shared}
def S0:Value->Prop
 | .int _ _=>True
 | .str _ _=>True
 | _=>False
theorem A9 {Q:Bool->Shared->Prop}:∀ {xs:List Value} (i:Nat),(∀ v∈xs,S0 v)->Q false s->KatLex prog w A true false Q (xs.zip xs) i s
 | [],i,_,h=>kat_nil h
 | v::xs,i,p,h=>by
  have ih:=A9 (xs:=xs) (i+1) (fun u hu=>p u (zAf _ hu)) h;have pv:=p v zAj;rw[List.zip_cons_cons];cases v with
  | int n t=>
   refine kat_cons (wpAny_eqBool_int ?_);rw[beq_self_eq_true];exact kat_yes ih
  | str n t=>
   refine kat_cons (wpAny_eqBool_str ?_);rw[decide_eq_true rfl];exact kat_yes ih
  | _=>exact pv.elim
def TupW (h:Heap):List Value->List Int->Prop
 | [],[]=>True
 | v::vs,r::rs=>(∃ (t:Addr) (u:Tok) (more:List Value),v = .ref t/\IsTup h t (Value.int r u::more).toArray/\∀ z∈more,S0 z)/\TupW h vs rs
 | _,_=>False
theorem TupW.keep {h h':Heap} (kp:∀ b o,h.get? b=some o->h'.get? b=some o):∀ {vs:List Value} {rs:List Int},TupW h vs rs->TupW h' vs rs
 | [],[],_=>trivial
 | [],_::_,z=>z.elim
 | _::_,[],z=>z.elim
 | v::vs,r::rs,⟨⟨t,u,m,e,⟨o,ho,hc⟩,z⟩,q⟩=>⟨⟨t,u,m,e,⟨o,kp _ _ ho,hc⟩,z⟩,q.keep kp⟩
theorem TupW.at {h:Heap}:∀ {vs:List Value} {rs:List Int} {i:Nat},TupW h vs rs->i<vs.length->∃ (t:Addr) (u:Tok) (more:List Value),vs.getD i Value.none = .ref t/\IsTup h t (Value.int (rs.getD i 0) u::more).toArray/\∀ z∈more,S0 z
 | [],[],_,_,z=>by simp at z
 | [],_::_,_,z,_=>z.elim
 | _::_,[],_,z,_=>z.elim
 | v::vs,r::rs,0,⟨⟨t,u,m,e,z⟩,q⟩,_=>⟨t,u,m,e,z⟩
 | v::vs,r::rs,i+1,⟨_,q⟩,l=>q.at (i:=i) (by simpa using l)
theorem TupW.len {h:Heap}:∀ {vs:List Value} {rs:List Int},TupW h vs rs->vs.length=rs.length
 | [],[],_=>rfl
 | [],_::_,z=>z.elim
 | _::_,[],z=>z.elim
 | v::vs,r::rs,z=>by rw[zAg,zAg,z.2.len]
theorem TupW.firsts {h:Heap}:∀ {vs:List Value} {rs:List Int},TupW h vs rs->∃ fs:List Value,KatTups h vs fs/\fs.length=vs.length/\∀ v∈fs,∃ (n:Int) (t:Tok),v = .int n t
 | [],[],_=>⟨[],trivial,rfl,fun _ z=>nomatch z⟩
 | [],_::_,z=>z.elim
 | _::_,[],z=>z.elim
 | v::vs,r::rs,⟨⟨t,u,m,e,⟨o,ho,hc,n,hd⟩,pm⟩,q⟩=>by
  obtain⟨fs,h1,h2,h3⟩:=q.firsts;refine⟨.int r u::fs,⟨⟨t,o,_,n,e,ho,hc,hd,by simp⟩,h1⟩,by rw[zAg,zAg,h2],fun y hy=>?_⟩;rcases zAn.mp hy with z | z
  ·exact⟨r,u,z⟩
  ·exact h3 y z
theorem GD {rs:List Int} (nd:rs.Nodup) {i j:Nat} (hi:i<rs.length) (hj:j<rs.length) (e:rs.getD i 0=rs.getD j 0):i=j:=by
 rw[zAt,zAt,zAe hi,zAe hj] at e;have e':rs[i]=rs[j]:=e;rcases zBD i j with c | c | c
 ·exact absurd e' ((zBe.mp nd) i j hi hj c)
 ·exact c
 ·exact absurd e'.symm ((zBe.mp nd) j i hj hi c)
theorem Zd {vs:List Value} {rs:List Int} (T:TupW s.heap vs rs) (nd:rs.Nodup) (two:2<=vs.length):FO prog w A vs LexO (fun i=>[rs.getD i 0]) s:=by
 obtain⟨fs,h1,h2,h3⟩:=T.firsts;have lr:=T.len;refine⟨tuples' (Value.type "int" != Value.type "tuple"),fun Q E q=>kat_kind h1 (by lia) (fun v hv=>?_) rfl q,fun i j hi hj C hC=>?_⟩
 ·obtain⟨n,t,rfl⟩:=h3 v hv
  exact Vn n t
 ·have nb:(Value.type "int" != Value.type "tuple")=true:=by decide +kernel
  rw[nb];obtain⟨t,u,m,e,⟨o,ho,hc,n,hd⟩,pm⟩:=T.at hi;by_cases c:i=j
  ·subst c
   rw[e];refine kat_lt ho hd ho hd ?_;rw[decide_eq_false (zBm _)];rw[show LexO.blt [rs.getD i 0] [rs.getD i 0]=false from Lo _] at hC;refine A9 0 (fun z hz=>?_) hC;rcases zAn.mp hz with y | y
   ·rw[y]; trivial
   ·exact pm z y
  ·obtain⟨t',u',m',e',⟨o',ho',hc',n',hd'⟩,pm'⟩:=T.at hj
   have ne:¬ rs.getD i 0=rs.getD j 0:=fun z=>c (GD nd (by lia) (by lia) z);rw[e,e'];refine kat_lt ho hd ho' hd' ?_;show KatLex prog w A true _ C ((Value.int (rs.getD i 0) u::m).zip (Value.int (rs.getD j 0) u'::m')) 0 s;rw[List.zip_cons_cons];refine kat_cons (wpAny_eqBool_int ?_);rw[show (rs.getD i 0==rs.getD j 0)=false by simpa using ne];refine kat_no (oneLt_int ?_);have eb:LexO.blt [rs.getD i 0] [rs.getD j 0]=decide (rs.getD i 0<rs.getD j 0):=by
    show HT.lexLt [rs.getD i 0] [rs.getD j 0]=_;rw[HT.lexLt_cons,if_neg ne]
   rw[eb] at hC;exact hC
end
def DF:V->Bool
 | .int _=>true
 | .str _=>true
 | _=>false
def TupF (K:zAa) (H:Hp):List V->List Int->Prop
 | [],[]=>True
 | y::ys,r::rs=>(∃ t more,y = .ref t/\SqT K H t (.int r::more)/\more.all DF=true)/\TupF K H ys rs
 | _,_=>False
theorem Ta:∀ {ms:List V} {us:List Value},ms.all DF=true->Vals ms us->∀ z∈us,S0 z
 | _,_,_,.nil,_,h=>nomatch h
 | x::ms,u::us,a,.cons r q,z,h=>by
  rw[zCy,zAv] at a;rcases zAn.mp h with e | e
  ·subst e
   cases x with
   | int n=>obtain⟨t,rfl⟩:=r; trivial
   | str n=>obtain⟨t,rfl⟩:=r; trivial
   | _=>exact absurd a.1 zAm
  ·exact Ta a.2 q z e
section
variable {X:Cx}
theorem TupF.vals {pins:List (Addr×Obj)} {σ:St} {H:Hp} {s:Shared} (I:Inv X pins σ H s):∀ {ys:List V} {rs:List Int} {us:List Value},TupF X.K H ys rs->Vals ys us->TupW s.heap us rs
 | [],[],_,_,.nil=>trivial
 | [],_::_,_,z,_=>z.elim
 | _::_,[],_,z,_=>z.elim
 | y::ys,r::rs,_,⟨⟨t,m,e,h,pm⟩,q⟩,.cons rv rr=>by
  subst e;cases rv;obtain⟨its,rv',p,_⟩:=I.tuple h;cases rv' with
  | cons r1 r2=>
   obtain⟨u,rfl⟩:=r1;exact⟨⟨t,u,_,rfl,p,Ta pm r2⟩,q.vals I rr⟩
def JQ (K:zAa):List V->Hp->VK->Prop:=fun xs H Q=>∃ a ys rs,xs=[.ref a]/\SqL K H a ys/\ys.length<64/\TupF K H ys rs/\rs.Nodup /\
 ∀ (l:Addr) (p:Array Nat),H l=none->CRS.Pm ys.length p->CRS.Up (O:=LexO) (fun i=>[rs.getD i 0]) p ys.length->Q (.ref l) (upd H l (.lst (p.toList.map fun i=>ys.getD i .non)))
theorem Wr:Gc X (.builtin "sorted") (JQ X.K):=by
 intro pins s σ H xs us Q I r h;obtain⟨a,ys,rs,rfl,hq,l64,T,nd,q⟩:=h;obtain⟨u,rfl,rx⟩:=Jb r;cases rx;obtain⟨its,rv,pl,hz⟩:=I.list hq;have hl:=rv.length;have TV:=T.vals I rv;refine Vz (O:=LexO) (key:=fun i=>[rs.getD i 0]) pl.isList (by lia) (fun A' h' kp two=>Zd (s:={ s with heap:=h' }) (TV.keep kp) nd two) fun p hp hu=>?_;obtain⟨e,he⟩:=sortedAll_at s.heap its (Nv its p).toArray;have lp:(p.toList.map fun i=>ys.getD i .non).length<=sizeLine:=by
  rw[zAb,zAC,hp.size]
  lia
 rw[<- hl] at hp hu;exact⟨.ref (s.heap.objs.size+1),_,I.laid (t':=s.toks) (fun b o q=>sortedAll_old q) (zBl _) (show ObjOk X.prog X.w _ _ _ (.lst _) from ⟨lp,Nv its p,e,Te rv _,he⟩),rfl,q _ p (I.hok.fresh (zBl _)) hp hu⟩
end
theorem W4 {α:Type} {S:List α} {d:α} {f:α->Int} {p:Array Nat} (hp:CRS.Pm S.length p) (up:CRS.Up (O:=LexO) (fun i=>[(S.map f).getD i 0]) p S.length) (nd:(S.map f).Nodup) :
  (p.toList.map fun i=>S.getD i d).Perm S/\(p.toList.map fun i=>S.getD i d).Pairwise (fun x y=>f x<f y):=by
 have pl:p.toList.Perm (zAM S.length):=by
  have:=zCi.mp hp
  simpa using this
 have e:(zAM S.length).map (fun i=>S.getD i d)=S:=by
  apply List.ext_getElem
  ·simp
  ·intro i h1 h2
   simp [zAt,zAe h2]
 have pm:(p.toList.map fun i=>S.getD i d).Perm S:=by
  have:=pl.map (fun i=>S.getD i d);rw[e] at this;exact this
 refine⟨pm,?_⟩;have nd':((p.toList.map fun i=>S.getD i d).map f).Nodup:=(pm.map f).nodup_iff.mpr nd;have sz:=hp.size;rw[zBe];intro i j hi hj hij;have hi':i<p.size:=by simpa using hi
 have hj':j<p.size:=by simpa using hj
 have u:=up i j (by lia) (by lia);have lt:∀ k (hk:k<p.size),p.getD k 0=p[k]/\p[k]<S.length:=fun k hk=>by
  refine⟨by simp [zCe,hk],?_⟩;have m:p[k]∈p.toList:=by simp
  have:=pl.mem_iff.mp m
  simpa using this
 obtain⟨a1,a2⟩:=lt i hi';obtain⟨b1,b2⟩:=lt j hj';have fa:∀ k (hk:k<S.length),(S.map f).getD k 0=f (S.getD k d):=fun k hk=>by
  simp [zAt,zAs,zAe hk]
 have ne:f (S.getD p[i] d)≠f (S.getD p[j] d):=by
  have:=(zBe.mp (zBs.mp nd')) i j (by simpa using hi') (by simpa using hj') hij
  simpa using this
 have le:¬ LexO.blt [(S.map f).getD (p.getD j 0) 0] [(S.map f).getD (p.getD i 0) 0]=true:=by
  have u':LexO.blt [(S.map f).getD (p.getD j 0) 0] [(S.map f).getD (p.getD i 0) 0]=false:=u;rw[u'];exact zAm
 rw[a1,b1,fa _ a2,fa _ b2] at le;have le':¬ HT.lexLt [f (S.getD p[j] d)] [f (S.getD p[i] d)]=true:=le;rw[HT.lexLt_cons,if_neg ne.symm] at le';have:¬ f (S.getD p[j] d)<f (S.getD p[i] d):=fun z=>le' (decide_eq_true z);simp only [List.getElem_map,Array.getElem_toList]
 lia
end L2
namespace L2
open PySem PySem.Spec PyProof.Rows
def HN (K:zAa):R2:=fun x y H Q=>(y = .non/\(∃ a xs,x = .ref a/\SqT K H a xs)/\Q (.bl false) H)\/JN K false x y H Q
theorem ER {X:Cx} (hu:X.A.units+64<cLine):Jm X (compareOp .Eq) (HN X.K):=by
 intro pins s σ H x y v u Q I rx ry h;rcases h with ⟨rfl,⟨a,xs,rfl,ht⟩,q⟩ | h
 ·cases rx
  cases ry
  obtain⟨its,_,p,_⟩:=I.tuple ht;exact SeqAt.RcAt.tuple_none p (by lia) X.prog X.w _ _ ⟨.bl false,H,I,rfl,q⟩
 ·exact LG false hu pins s σ H x y v u Q I rx ry h
theorem HF {X:Cx} {K:zAa} (hu:X.A.units+64<cLine) (hK:X.K=K:=by rfl):Jm X (compareOp .Eq) (HN K):=hK▸ER hu
def TsAt {α:Type} (f:α->List V) (H:Hp):List V->List α->Prop
 | [],[]=>True
 | x::xs,z::zs=>(∃ t,x = .ref t/\H t=some (.tup (f z)))/\TsAt f H xs zs
 | _,_=>False
section
variable {α:Type} {f:α->List V}
theorem TsAt.len {H:Hp}:∀ {xs:List V} {zs:List α},TsAt f H xs zs->xs.length=zs.length
 | [],[],_=>rfl
 | [],_::_,h=>h.elim
 | _::_,[],h=>h.elim
 | x::xs,p::ps,h=>by rw[zAg,zAg,TsAt.len h.2]
theorem TsAt.mono {H H':Hp} (s:∀ t ws,H t=some (.tup ws)->H' t=some (.tup ws)):∀ {xs:List V} {zs:List α},TsAt f H xs zs->TsAt f H' xs zs
 | [],[],_=>trivial
 | [],_::_,h=>h.elim
 | _::_,[],h=>h.elim
 | x::xs,p::ps,⟨⟨t,e,h⟩,r⟩=>⟨⟨t,e,s _ _ h⟩,TsAt.mono s r⟩
theorem TsAt.snoc {H:Hp}:∀ {xs:List V} {zs:List α} {t:Addr} {z:α},TsAt f H xs zs->H t=some (.tup (f z))->TsAt f H (xs++[.ref t]) (zs++[z])
 | [],[],t,_,_,h=>⟨⟨t,rfl,h⟩,trivial⟩
 | [],_::_,_,_,r,_=>r.elim
 | _::_,[],_,_,r,_=>r.elim
 | x::xs,p::ps,_,_,⟨z,r⟩,h=>⟨z,TsAt.snoc r h⟩
theorem TsAt.get {H:Hp}:∀ {xs:List V} {zs:List α} {i:Nat} {x:V},TsAt f H xs zs->xs[i]?=some x->∃ t z,zs[i]?=some z/\x = .ref t/\H t=some (.tup (f z))
 | [],[],_,_,_,e=>by simp at e
 | [],_::_,_,_,h,_=>h.elim
 | _::_,[],_,_,h,_=>h.elim
 | x::xs,p::ps,0,y,⟨⟨t,e,h⟩,r⟩,q=>by
  simp at q;subst q;exact⟨t,p,rfl,e,h⟩
 | x::xs,p::ps,i+1,y,⟨_,r⟩,q=>by
  obtain⟨t,p',h1,h2⟩:=TsAt.get (i:=i) r (by simpa using q);exact⟨t,p',by simpa using h1,h2⟩
theorem TsAt.at {H:Hp} {xs:List V} {zs:List α} {i:Nat} {z:α} (h:TsAt f H xs zs) (e:zs[i]?=some z):∃ t,xs[i]?=some (.ref t)/\H t=some (.tup (f z)):=by
 have hi:i<xs.length:=by rw[h.len]; exact (zAi.mp e).1
 obtain⟨t,z',e',ex,ht⟩:=h.get (zAe hi);rw[e] at e';cases e';exact⟨t,by rw[zAe hi,ex],ht⟩
end
def BZ (h:Heap) (d:Addr) (ob:Obj) (es:Array DictEntry) (ep:Nat):Prop:=h.get? d=some ob/\ob.ExactDict/\ob.data = .dict es ep
section
variable {prog:Program} {w:World} {A:Around} {E:Value->Shared->Prop} {s:Shared} {d v it:Addr} {ob:Obj} {es:Array DictEntry} {ep:Nat}
theorem Wt (d:Addr) (nsm:(d==sysModules)=false):MeetsIn prog w (Builtin.«dict.items» ⟨[.ref d],[]⟩) (fun _ R s=>s.TypeIs (.ref d) "dict" /\
  R (.ok (.ret (.ref s.heap.objs.size))) { s with heap:=s.heap.push { cls:=.type "dict_items",data:=.fields #[.ref d] } }):=
 .of_wp fun A R s ⟨ty,fin⟩=>by
  unfold Builtin.«dict.items» Builtin.Dict.noArgs;refine zCC <| zCC <| wpAny_notOrdered_dict ty ?_;show wpAny _ _ (pure d) _ _ _;refine zCD (show wpAny _ _ (Builtin.Dict.showsAll d >>= _) _ _ s from ?_);unfold Builtin.Dict.showsAll;rw[if_neg (fun z=>by rw[nsm] at z; cases z)];exact zCC <| zCD <| zCC <| wpAny_newObj_type <| zCD ⟨_,rfl,fin⟩
theorem Yv {Q:Value->Shared->Prop} (view:s.heap.IsItemsView v d) (r:BZ s.heap d ob es ep)
  (fin:Q (.ref s.heap.objs.size) { s with heap:=s.heap.push { cls:=.type "dict_itemiterator",data:=.fields #[.none,.bool false,.ref d,.int 0 0,.int es.size 0,.int ep 0,.none,.none] } }) :
  wpAny (model prog w) A (pyIter (.ref v)) Q E s:=by
 obtain⟨o1,g1,g2,g3⟩:=id view;obtain⟨r1,r2,r3⟩:=r;refine wpAny_pyIter_slot view.typeIs PySem.F.slot_dict_items_iter <| wpAny_call_entry PySem.F.slot_dict_items_iter view.typeIs PySem.F.entry_dict_items_iter ?_ (PySem.F.args_dict_items_iter_1 _);unfold Builtin.«dict_items.__iter__» Builtin.Dict_items.dictOf Builtin.Dict_items.newIterator;refine zCC <| zCD <| zCC <| zCC <| wpAny_field g1 g3 (x:=.ref d) rfl <| zCD <| zCC <| zCC <| wpAny_dictEntries r1 r3 <| zCC <| wpAny_dictEpoch r1 r3 ?_;have owns:Builtin.Dict_items.ownsTuple "dict_itemiterator" = true:=by decide
 simp only [owns,if_true];refine wpAny_newObj_type (zCD ⟨_,rfl, "dict_itemiterator",_,⟨_,zAu _ rfl,rfl⟩,PySem.F.slot_dict_itemiterator_next.lookup,?_⟩) (by
  simp only [sizeOk,Builtin.Dict_items.ownedTupleFields,zAh,zAo,zAg,zCo,zCE]
  lia)
 simpa [rawInt,Builtin.Dict_items.ownedTupleFields] using fin
theorem Zi {i:Nat} {k x:Value} {Q:Option Value->Shared->Prop} {en:DictEntry} (st:IsItemIter s.heap it d i es.size ep k x) (r:BZ s.heap d ob es ep) (at':es[i]?=some en)
  (fin:∀ h',IsItemIterOut h' it d (i+1) es.size ep en.key en.val s.heap.objs.size->h'.get? s.heap.objs.size=some { cls:=.type "tuple",data:=.seq #[en.key,en.val] }->h'.objs.size=s.heap.objs.size+1 ->
   (∀ b o,b≠it->s.heap.get? b=some o->h'.get? b=some o)->Q (some (.ref s.heap.objs.size)) { s with heap:=h' }):wpAny (model prog w) A (pyNext (.ref it)) Q E s:=by
 obtain⟨h0,gn,dn,tk,os⟩:=s;obtain⟨r1,r2,r3⟩:=r;have ty0:Shared.TypeIs ⟨h0,gn,dn,tk,os⟩ (.ref it) "dict_itemiterator" := ⟨_,st,rfl⟩;unfold pyNext;refine zCC <| wpAny_attempt <| wpAny_callSpecial?_slot (name:=Str.ofString "__next__") ty0 PySem.F.slot_dict_itemiterator_next <| wpAny_call_entry PySem.F.slot_dict_itemiterator_next ty0 PySem.F.entry_dict_itemiterator_next ?_ (PySem.F.args_dict_itemiterator_next_1 _);refine zCC <| zCD <| zCC <| zCC ?_
 first
  | refine zCC <| wpAny_typeNameOfWhole_itemiter ty0 <| zCD ?_
  | refine zCC <| wpAny_typeNameOf_itemiter ty0 <| zCD ?_
 refine zCC <| wpAny_fieldsOf st rfl ?_;have owns:Builtin.Dict_items.ownsTuple "dict_itemiterator" = true:=by decide
 simp only [owns,if_true];show wpAny _ _ (if (Value.ref d==Value.none)=true then _ else _) _ _ _;rw[if_neg (fun z:(Value.ref d==Value.none)=true=>zAm z)];refine zCC <| zCD <| zCC <| wpAny_dictEntries r1 r3 ?_;rw[if_neg (by simp)];refine zCC <| zCD <| zCC <| wpAny_dictEpoch r1 r3 ?_;rw[if_neg (by simp)];refine zCD ?_;simp only [show ¬ ((i:Int)<0) by lia,if_false,Int.toNat_natCast,at'];refine zCC ?_
 first
  | refine zCC <| wpAny_typeNameOfWhole_itemiter ty0 <| zCD ?_
  | refine zCC <| wpAny_typeNameOf_itemiter ty0 <| zCD ?_
 refine zCC <| wpAny_isOneOf_itemiter ty0 ?_;show wpAny _ _ (setField (.ref it) 3 (rawInt ((i:Int)+1)) >>= _) _ _ _;refine zCC <| wpAny_setField_rec st (by simp) fun ha sa ka=>?_;replace ka:zAU it h0 ha:=ka;replace sa:IsItemIter ha it d (i+1) es.size ep k x:=by
  have e:((i+1:Nat):Int)=(i:Int)+1:=by lia
  unfold IsItemIter;rw[e]
  simpa [rawInt] using sa
 have ty1:Shared.TypeIs ⟨ha,gn,dn,tk,os⟩ (.ref it) "dict_itemiterator" := ⟨_,sa,rfl⟩;refine zCC <| wpAny_holding <| zCC <| wpAny_isOneOf_itemiter ty1 <| zCC <| wpAny_isOneOf_itemiter ty1 ?_;show wpAny _ _ (Builtin.Dict_items.pairFromOwner (.ref it) 6 en.key en.val) _ _ _;unfold Builtin.Dict_items.pairFromOwner;refine zCC <| wpAny_newTuple ?_;have sb:IsItemIter (ha.push { cls:=.type "tuple",data:=.seq #[en.key,en.val] }) it d (i+1) es.size ep k x:=zAd _ sa;generalize eb:ha.push { cls:=.type "tuple",data:=.seq #[en.key,en.val] }=hb at sb;have za:ha.objs.size=h0.objs.size:=ka.1;have lt:it<h0.objs.size:=zAp st;have tb:hb.get? h0.objs.size=some { cls:=.type "tuple",data:=.seq #[en.key,en.val] }:=by
  rw[<- eb,<- za];exact zAu _ rfl
 have zb:hb.objs.size=h0.objs.size+1:=by rw[<- eb,zBn,za]
 have kb:∀ b o,b≠it->h0.get? b=some o->hb.get? b=some o:=fun b o n e=>by
  rw[<- eb];exact zAd _ (ka.extBut b o n e)
 show wpAny _ _ (Builtin.Dict_items.ownedTupleIsFree (.ref it) >>= _) _ _ ⟨hb,gn,dn,tk,os⟩;rw[za];clear eb sa ka ty1 za ha;unfold Builtin.Dict_items.ownedTupleIsFree;refine zCC <| zCC <| wpAny_field sb rfl (x:=.none) rfl <| zCD ?_;simp only [if_true];refine zCC <| wpAny_field sb rfl (x:=k) rfl <| zCC <| wpAny_field sb rfl (x:=x) rfl <| zCC <| wpAny_setField_rec sb (by simp) fun hc sc kc=>?_;replace kc:zAU it hb hc:=kc;replace sc:IsItemIter hc it d (i+1) es.size ep en.key x:=sc;refine zCC <| wpAny_setField_rec sc (by simp) fun hd sd kd=>?_;replace kd:zAU it hc hd:=kd;replace sd:IsItemIter hd it d (i+1) es.size ep en.key en.val:=sd;refine zCC <| wpAny_setField_rec sd (by simp) fun he se ke=>?_;replace ke:zAU it hd he:=ke;replace se:IsItemIterOut he it d (i+1) es.size ep en.key en.val h0.objs.size:=se;refine zCC <| wpAny_setField_rec se (by simp) fun hf sf kf=>?_;replace kf:zAU it he hf:=kf;replace sf:IsItemIterOut hf it d (i+1) es.size ep en.key en.val h0.objs.size:=sf;have up:∀ b o,b≠it->hb.get? b=some o->hf.get? b=some o:=fun b o n e=>kf.extBut b o n (ke.extBut b o n (kd.extBut b o n (kc.extBut b o n e)));refine zCC <| wpAny_letGo <| zCD <| zCD ⟨_,rfl,zCD (fin hf sf (up _ _ (zBk lt) tb) ?_ fun b o n e=>up b o n (kb b o n e))⟩;show hf.objs.size=h0.objs.size+1;rw[kf.1,ke.1,kd.1,kc.1,zb]
theorem F5 {i:Nat} {k x:Value} {Q:Option Value->Shared->Prop} (hh:A.handled=none) (st:IsItemIter s.heap it d i es.size ep k x) (r:BZ s.heap d ob es ep) (le:es.size<=i)
  (fin:∀ h',Heap.ExtBut it s.heap h'->Q none { s with heap:=h' }):wpAny (model prog w) A (pyNext (.ref it)) Q E s:=by
 obtain⟨r1,r2,r3⟩:=r;have ty0:s.TypeIs (.ref it) "dict_itemiterator" := ⟨_,st,rfl⟩;unfold pyNext;refine zCC <| wpAny_attempt <| wpAny_callSpecial?_slot (name:=Str.ofString "__next__") ty0 PySem.F.slot_dict_itemiterator_next <| wpAny_call_entry PySem.F.slot_dict_itemiterator_next ty0 PySem.F.entry_dict_itemiterator_next ?_ (PySem.F.args_dict_itemiterator_next_1 _);refine zCC <| zCD <| zCC <| zCC ?_
 first
  | refine zCC <| wpAny_typeNameOfWhole_itemiter ty0 <| zCD ?_
  | refine zCC <| wpAny_typeNameOf_itemiter ty0 <| zCD ?_
 refine zCC <| wpAny_fieldsOf st rfl ?_;have owns:Builtin.Dict_items.ownsTuple "dict_itemiterator" = true:=by decide
 simp only [owns,if_true];show wpAny _ _ (if (Value.ref d==Value.none)=true then _ else _) _ _ _;rw[if_neg (fun z:(Value.ref d==Value.none)=true=>zAm z)];refine zCC <| zCD <| zCC <| wpAny_dictEntries r1 r3 ?_;rw[if_neg (by simp)];refine zCC <| zCD <| zCC <| wpAny_dictEpoch r1 r3 ?_;rw[if_neg (by simp)];refine zCD ?_;simp only [show ¬ ((i:Int)<0) by lia,if_false,Int.toNat_natCast,zBA le];refine zCC ?_
 first
  | refine zCC <| wpAny_typeNameOfWhole_itemiter ty0 <| zCD ?_
  | refine zCC <| wpAny_typeNameOf_itemiter ty0 <| zCD ?_
 show wpAny _ _ (setField (.ref it) 2 .none >>= _) _ _ _;refine zCC <| wpAny_setField st rfl (by simp) ?_;show wpAny _ _ (newExc (.type "StopIteration") [] >>= _) _ _ _;refine zCC ?_;simp only [newExc,newTuple];refine zCC <| wpAny_newObj_type ?_ (by size_fits);refine zCC (m:=firstArgMember _ _) <| wpAny_of_eq (a:=Value.none) (by first | rfl | (simp only [firstArgMember]; rfl)) <| wpAny_newObj_type ?_ (by size_fits);simp only [raiseNew];refine zCC <| wpAny_handled ?_;rw[show A.in1.handled=none from hh];refine zCC <| zCD <| wpAny_throw ?_;refine zCC <| wpAny_isInstance (T := "StopIteration") (b:=true) ⟨_,zAu _ rfl,rfl⟩ isSubtype_stop ?_;exact zCD (fin _ (((zAU.update ..).extBut.push _).push _))
end
theorem X8:entryFor table "dict_itemiterator.__iter__" = some Builtin.«dict_keyiterator.__iter__» := entryFor_alias (id' := "dict_keyiterator.__iter__") (by kernel_rfl) rfl (by decide +kernel) (by kernel_rfl)
theorem O1 {prog:Program} {w:World} {A:Around} {E:Value->Shared->Prop} {s:Shared} {it d:Addr} {i n ep:Nat} {x y:Value} {Q:Value->Shared->Prop} (st:IsItemIter s.heap it d i n ep x y) (fin:Q (.ref it) s):wpAny (model prog w) A (pyIter (.ref it)) Q E s:=by
 have ty0:s.TypeIs (.ref it) "dict_itemiterator" := ⟨_,st,rfl⟩;refine wpAny_pyIter_slot ty0 PySem.F.slot_dict_itemiterator_iter <| wpAny_call_entry PySem.F.slot_dict_itemiterator_iter ty0 X8 ?_ (PySem.F.args_dict_itemiterator_iter_1 _);show wpAny _ _ (ret (.ref it)) _ _ _;exact zCD ⟨_,rfl, "dict_itemiterator",_,ty0,PySem.F.slot_dict_itemiterator_next.lookup,fin⟩
def IN:HO->Prop
 | .tup _=>False
 | .own _=>False
 | .tbl _=>False
 | .frz _ _=>False
 | _=>True
section
variable {X:Cx} {pins:List (Addr×Obj)} {σ:St} {H:Hp} {s:Shared} {a:Addr} {u u':HO} {ob:Obj}
theorem Inv.swap (I:Inv X pins σ H s) (h:H a=some u) (n1:∀ xs,u ≠ .tup xs) (n2:∀ y,u ≠ .own y) (n3:∀ ps,u ≠ .tbl ps) (n4:∀ o v,X.H₀ a≠some (.frz o v)) (ok:ObjOk X.prog X.w H s.heap a u'):Inv X pins σ (upd H a u') s:=by
 have na:∀ {b:Addr},H b=none->b≠a:=fun e z=>by rw[z,h] at e; cases e
 have ht:∀ b xs,H b=some (.tup xs)->upd H a u' b=some (.tup xs):=fun b xs e=>by
  rw[Ar (fun z=>by rw[z,h] at e; injection e with e; exact n1 _ e)];exact e
 have ho:∀ b y,H b=some (.own y)->upd H a u' b=some (.own y):=fun b xs e=>by
  rw[Ar (fun z=>by rw[z,h] at e; injection e with e; exact n2 _ e)];exact e
 obtain⟨i1,i2,i3,i4,i5,i6,i7,i8,i9,i10,i11⟩:=I;refine⟨i1,i2,i3,⟨i4.keep,i4.slot,fun b o e n hx=>?_,i4.there,fun b xs e=>ht b xs (i4.tups b xs e),fun b o v e=>?_,fun b ps e=>?_⟩,i5,i6,?_,fun x c e=>?_,fun p hp=>?_,fun b o e=>?_,i11⟩
 ·have:=i4.free b o e n hx
  rw[Ar (na this)];exact this
 ·have e':=i4.frzs b o v e
  rw[Ar (fun z=>n4 o v (by rw[<- z]; exact e))];exact e'
 ·obtain⟨more,e'⟩:=i4.tbls b ps e
  refine⟨more,?_⟩;rw[Ar (fun z=>by rw[z,h] at e'; injection e' with e'; exact n3 _ e')];exact e'
 ·rw[Ar (na i7)]
  exact i7
 ·rw[Ar (na (i8 x c e))]
  exact i8 x c e
 ·obtain⟨p1,p2,p3⟩:=i9 p hp
  exact⟨p1,by rw[Ar (na p2)]; exact p2,p3⟩
 ·by_cases z:b=a
  ·subst z
   rw[Ab] at e;cases e;exact ok.stay (fun _ _ _ q=>q) (fun c q=>ho c _ q) ht
  ·rw[Ar z] at e
   exact (i10 b o e).stay (fun _ _ _ q=>q) (fun c q=>ho c _ q) ht
theorem Inv.notFrz (I:Inv X pins σ H s) (h:H a=some u) (bare:IN u):∀ o v,X.H₀ a≠some (.frz o v):=fun o v e=>by
 have:=I.base.frzs a o v e;rw[h] at this;injection this with this;rw[this] at bare;exact bare
theorem Inv.freeze (I:Inv X pins σ H s) (h:H a=some u) (bare:IN u) (ho:s.heap.get? a=some ob):Inv X pins σ (upd H a (.frz ob u)) s:=
 I.swap h (fun _ e=>by rw[e] at bare; exact bare) (fun _ e=>by rw[e] at bare; exact bare) (fun _ e=>by rw[e] at bare; exact bare) (I.notFrz h bare) ⟨ho,I.hok a u h⟩
theorem Inv.thaw (I:Inv X pins σ H s) (h:H a=some (.frz ob u)) (n:∀ o v,X.H₀ a≠some (.frz o v)):Inv X pins σ (upd H a u) s:=
 I.swap h (fun _ e=>by cases e) (fun _ e=>by cases e) (fun _ e=>by cases e) n (I.hok a _ h).2
end
def LZ (t:TS):TS:=fun D σ H=>∃ a u,H a=some u/\IN u/\t { D with nx:=fun σ' H'=>∃ ob,H' a=some (.frz ob u)/\D.nx σ' (upd H' a u) } σ H
theorem GC {X:Cx} {st:Stmt} {t:TS} (h:PS X st t):PS X st (LZ t):=by
 intro pins s σ H D I ⟨a,u,ha,bare,ht⟩;have n:=I.notFrz ha bare;refine Cw (h pins s σ H _ I ht) fun f s' sp=>?_
 match f,sp with
 | .next,⟨σ',H',I',ob,e,q⟩=>exact⟨σ',_,I'.thaw e n,q⟩
 | .brk,sp=>exact sp
 | .cont,sp=>exact sp
 | .ret v,sp=>exact sp
def LL (a:Addr) (ob:Obj) (kvs:List (List Dt×V)):It:=
 ⟨fun i H=>H a=some (.frz ob (.dT kvs))/\i<kvs.length,
   fun i H x H'=>∃ t b k v,x = .ref t/\H t=none/\kvs[i]?=some (k,v)/\H b=some (.tup (k.map kV))/\H'=upd H t (.tup [.ref b,v]),
   fun i H=>H a=some (.frz ob (.dT kvs))/\kvs.length<=i⟩
theorem BV {H:Hp}:∀ {kvs:List (List Dt×V)} {xs:List (List Dt×Addr×Value)} {i:Nat} {p:List Dt×V},KT H kvs xs->kvs[i]?=some p->∃ q,xs[i]?=some q/\p.1=q.1/\H q.2.1=some (.tup (p.1.map kV))/\RelV p.2 q.2.2
 | _,_,_,_,.nil,e=>by simp at e
 | _,_,0,_,.cons r _,e=>by simp at e; subst e; exact⟨_,rfl,r⟩
 | _,_,i+1,_,.cons _ t,e=>by
  obtain⟨q,h1,h2⟩:=BV (i:=i) t (by simpa using e);exact⟨q,by simpa using h1,h2⟩
theorem DI {H:Hp}:∀ {kvs:List (List Dt×V)} {xs:List (List Dt×Addr×Value)},KT H kvs xs->kvs.length=xs.length
 | _,_,.nil=>rfl
 | _,_,.cons _ t=>by rw[zAg,zAg,DI t]
theorem DC {P:Program} {w:World} {H:Hp} {h:Heap} {a:Addr} {ob:Obj} {kvs:List (List Dt×V)} {es:Array DictEntry} {ep:Nat} (ok:ObjOk P w H h a (.frz ob (.dT kvs))) (hd:ob.data = .dict es ep) :
  BZ h a ob es ep/\es.size=kvs.length/\∀ (i:Nat) (p:List Dt×V),kvs[i]?=some p->∃ b x,(es[i]?).map (fun (e:DictEntry)=>(e.key,e.val))=some (Value.ref b,x)/\H b=some (.tup (p.1.map kV))/\RelV p.2 x:=by
 obtain⟨ho,z,y,xs,r,o,es',ep',h1,h2,h3,h4,h5⟩:=ok;rw[ho] at h1;cases h1;rw[hd] at h3;cases h3;have le:es.size=xs.length:=by rw[<- zAC,h4,zAb]
 refine⟨⟨ho,h2,hd⟩,by rw[le]; exact (DI (show KT H kvs xs from r)).symm,fun i p e=>?_⟩;obtain⟨q,e1,e2,e3,e4⟩:=BV (show KT H kvs xs from r) e;refine⟨q.2.1,q.2.2,?_,e3,e4⟩;rw[<- zBh,h4,zAs,e1];rfl
theorem G9 {P:Program} {w:World} {K:zAa} {elts:List Expr} {k:Nat} {tp:Pos} (a it:Addr) (ob:Obj) (kvs:List (List Dt×V)) (es:Array DictEntry) (ep:Nat) (hdat:ob.data = .dict es ep) :
  Wq P w K (.Tuple elts k tp) (LL a ob kvs) [it] it (fun i h=>∃ x y,IsItemIter h it a i es.size ep x y) where
 mem:=by simp
 obj:=fun i h st b hb=>by
  obtain⟨x,y,e⟩:=st;have eb:b=it:=by simpa using hb
  subst eb;exact⟨_,e,fun v z=>by
   have z':Data.fields _=Data.cell v:=z;cases z'⟩
 keep:=fun i h h' st kk=>by
  obtain⟨x,y,e⟩:=st;exact⟨x,y,kk it (by simp) _ e⟩
 item:=by
  intro X hP hw hK hc i pins s σ H E I hf st hg;subst hP hw hK;obtain⟨x0,y0,se⟩:=st;obtain⟨ha,hi⟩:=hg;obtain⟨i0,i1,i2,i3,i4,i5⟩:=hf it (by simp);obtain⟨raw,sz,ent⟩:=DC (I.hok a _ ha) hdat;have ep':kvs[i]?=some kvs[i]:=zAe hi;generalize kvs[i]=p at ep';obtain⟨b,x,ee,hb,rx⟩:=ent i p ep';obtain⟨en,een,e2⟩:=zAJ.mp ee;have ek:en.key = .ref b:=congrArg Prod.fst e2;have ev:en.val=x:=congrArg Prod.snd e2;refine Zi se raw een fun h1 ho hT hsz hk=>⟨_,rfl,?_⟩;rw[ek,ev] at ho hT;refine wpAny_letOwnedTupleGo_items ho fun h2 he2 hs2=>?_;have hs2':zAU it h1 h2:=hs2;have ilt:it<s.heap.objs.size:=zAp se;have hnT:H s.heap.objs.size=none:=I.hok.fresh (zAl _);have up:∀ b o,b≠it->s.heap.get? b=some o->h2.get? b=some o:=fun b o h3 q=>(hs2'.2 b h3).trans (hk b o h3 q);have nch:∀ b,b∉[it]->b≠it:=fun b hb z=>hb (by simp [z]);have ntr:∀ b o,H b=some o->b≠it:=fun b o q z=>by (rw[z,i0] at q; cases q)
  have htup:h2.get? s.heap.objs.size=some { cls:=.type "tuple",data:=.seq #[.ref b,x] }:=(hs2'.2 _ (zBk ilt)).trans hT;have I1:Inv X pins σ (upd H s.heap.objs.size (.tup [.ref b,p.2])) { s with heap:=h2,gens:=s.gens,drawn:=s.drawn,toks:=s.toks }:=by
   refine I.step (ch:=[it]) (fun b hb=>?_) (fun b o _ _ hb q _=>up b o (nch b hb) q) (fun b o _ _ hb q _=>⟨o.slots,up b o (nch b hb) q⟩) (fun b o _ q n=>by rw[Ar (zAw (zAp q))]; exact n)
    (fun b o hb q=>⟨o,up b o (nch b hb) q⟩) (fun b xs q=>by rw[Ar (Ap q hnT)]; exact q) (fun b o u q=>by rw[Ar (Ap q hnT)]; exact q) (fun b ps q=>⟨#[],by rw[Ar (Ap q hnT),q]; simp⟩)
    (fun m hm=>?_) (fun c o q=>?_) I.bare
   ·have eb:b=it:=by simpa using hb
    subst eb;exact⟨i3,i1,i4,i5⟩
   ·obtain⟨o,es,ep,hoL,r⟩:=hm
    exact⟨o,es,ep,up _ o (Ne.symm i1) hoL,r⟩
   ·by_cases hc:c=s.heap.objs.size
    ·subst hc
     rw[Ab] at q;cases q;exact⟨Cf (by show 2<=1000; decide),[.ref b,x],.cons rfl (.cons rx .nil),_,htup,rfl,_,rfl⟩
    ·rw[Ar hc] at q
     refine (I.hok c o q).stay (fun c v hc2 q2=>?_) (fun c q2=>by rw[Ar (Ap q2 hnT)]; exact q2) (fun c xs q2=>by rw[Ar (Ap q2 hnT)]; exact q2);rcases hc2 with rfl | hc2
     ·exact up _ v (ntr _ _ q) q2
     ·exact up _ v (ntr _ _ hc2) q2
  refine⟨.ref s.heap.objs.size,_,I1,rfl,⟨_,b,p.1,p.2,rfl,hnT,ep',hb,rfl⟩,⟨_,_,he2⟩,fun c hc=>?_⟩;have eb:c=it:=by simpa using hc
  subst eb;rw[Ar (zAw ilt)];exact i0
 done:=by
  intro X hP hw hK hc i pins s σ H E I hf st hg;subst hP hw hK;obtain⟨x0,y0,se⟩:=st;obtain⟨ha,hi⟩:=hg;obtain⟨i0,i1,i2,i3,i4,i5⟩:=hf it (by simp);obtain⟨raw,sz,ent⟩:=DC (I.hok a _ ha) hdat;exact F5 (I.ok.hd hc) se raw (by lia) fun h' eb=>⟨rfl,I.turned (t':=s.toks) (fun b o hb q=>eb b o hb q) i0 i1 i3 i4 i5⟩
 self:=fun _ _ _ _ _ st h=>by
  obtain⟨x,y,e⟩:=st;exact O1 e h
def IS (td:TE):TI:=fun σ H R=>td σ H fun x H1=>∃ a kvs,x = .ref a/\H1 a=some (.dT kvs)/\∀ ob,R (LL a ob kvs) (upd H1 a (.frz ob (.dT kvs)))
theorem BW {X:Cx} {o:Expr} {td:TE} {apos cpos tp:Pos} {elts:List Expr} {k:Nat} (ho:PE X o td)
  (hbase:attributeBase o "items" X.env (eval o X.env)=eval o X.env:=by rfl) (hline:(apos.endLine==cpos.line)=true:=by rfl) :
  PI X (.Tuple elts k tp) (.Call (.Attribute o "items" apos) [] [] cpos) (IS td):=by
 intro pins s σ H R I h;refine wpAny_Call_method0_late hbase hline (Cw (ho pins s σ H _ I h) fun v s1 ⟨x,H1,I1,r1,a,kvs,ex,ha,q⟩=>?_);subst ex;obtain rfl:v=Value.ref a:=r1;obtain⟨t1,t2,t3⟩:=EV I1 (.inr ⟨kvs,.inl ha⟩);obtain⟨z,y,xs,r,ob,es,ep,h1,h2,h3,h4,h5⟩:=(show ObjOk X.prog X.w H1 s1.heap a (.dT kvs) from I1.hok a _ ha);refine⟨"dict", "dict.items",PySem.F.plainAttrs_dict,PySem.F.slot_dict_items,PySem.F.type_dict_items,t1,t2,Calls.callWith_builtin rfl (PySem.evalArgs_none ?_)⟩;refine call_meetsIn PySem.F.slot_dict_items t1 PySem.F.entry_dict_items (PySem.F.args_dict_items_1 _) (Wt a t3) ⟨t1,?_⟩;have sd:BZ (s1.heap.push { cls:=.type "dict_items",data:=.fields #[.ref a] }) a ob es ep:=⟨zAd _ h1,h2,h3⟩;refine Yv (s:={ s1 with heap:=s1.heap.push { cls:=.type "dict_items",data:=.fields #[.ref a] } }) (d:=a) ⟨_,zAu _ rfl,rfl,rfl⟩ sd ?_;have I2:Inv X pins σ H1 { s1 with heap:=(s1.heap.push { cls:=.type "dict_items",data:=.fields #[.ref a] }).push { cls:=.type "dict_itemiterator",data:=.fields #[.none,.bool false,.ref a,.int 0 0,.int es.size 0,.int ep 0,.none,.none] } }:=
  I1.kept (t':=s1.toks) fun b o e=>zAd _ (zAd _ e)
 have I3:=I2.freeze (ob:=ob) ha trivial (zAd _ (zAd _ h1));have le:s1.heap.objs.size<=(s1.heap.push { cls:=.type "dict_items",data:=.fields #[.ref a] }).objs.size:=by rw[zBn]; lia
 refine⟨_,[(s1.heap.push { cls:=.type "dict_items",data:=.fields #[.ref a] }).objs.size],_,_,_,rfl,I3,G9 a _ ob kvs es ep h3,⟨_,_,zAu _ rfl⟩,fun b hb=>?_,q ob⟩;have eb:=zAk.mp hb;subst eb;have fr:H1 (s1.heap.push { cls:=.type "dict_items",data:=.fields #[.ref a] }).objs.size=none:=I1.hok.fresh le;refine I1.fpOk le ?_;rw[Ar (fun z=>by rw[z,ha] at fr; cases fr)];exact fr
theorem Z3 {K':zAa} {a:Addr} {ob:Obj} {kvs:List (List Dt×V)} {i1 i2:Nat} {tb:TS} {D:Om} {σ:St} {H:Hp} (Pv:Nat->St->Hp->Prop) (h0:Pv 0 σ H) (hl:∀ i σ H,i<=kvs.length->Pv i σ H->H a=some (.frz ob (.dT kvs)))
  (hs:∀ i k v σ H t b,kvs[i]?=some (k,v)->Pv i σ H->H t=none->H b=some (.tup (k.map kV))->tb { D with nx:=Pv (i+1),ct:=Pv (i+1),bk:=D.nx } ((σ.set i1 (some (.ref b))).set i2 (some v)) (upd H t (.tup [.ref b,v]))) (hd:∀ σ H,Pv kvs.length σ H->D.nx σ H) :
  ∃ W:Nat->Nat->St->Hp->Prop,(∃ m,W 0 m σ H)/\∀ i m σ H,W i m σ H ->
   ((LL a ob kvs).stop i H/\D.nx σ H)\/((LL a ob kvs).go i H/\∃ N:St->Hp->Prop,(∀ σ' H',N σ' H'->∃ m',m'<m/\W (i+1) m' σ' H')/\∀ x H',(LL a ob kvs).yld i H x H'->X5 K' 2 (Nc (Fb i1) (Nc (Fb i2) AX)) x σ H' fun σ2 H2=>tb { D with nx:=N,ct:=N,bk:=D.nx } σ2 H2):=by
 refine⟨fun i m σ H=>m=kvs.length-i/\i<=kvs.length/\Pv i σ H,⟨kvs.length,by simp,zAD _,h0⟩,?_⟩;rintro i m σ H ⟨rfl,hi,p⟩;have q:=hl i σ H hi p;by_cases hlt:i<kvs.length
 ·refine .inr ⟨⟨q,hlt⟩,Pv (i+1),fun σ' H' p'=>⟨kvs.length-(i+1),by lia,rfl,hlt,p'⟩,fun x H' y=>?_⟩
  obtain⟨t,b,k,v,ex,ht,hz,hb,e3⟩:=y;subst ex e3;exact⟨t,_,rfl,SqT.of Ab,rfl,_,_,rfl,_,_,rfl,rfl,hs i k v σ H t b hz p ht hb⟩
 ·obtain rfl:i=kvs.length:=by lia
  exact .inl ⟨⟨q,zAl _⟩,hd σ H p⟩
structure DfIn (K:zAa) (x:Str) (st:Stmt) (f:Addr):Prop where
 ns:zAF K zCH x=some (some (.ref f))
 ex:∃ (od an:Option Addr) (sl:Array (Option Value)) (oc kV dc pm cd ct:Value),K.lookup f=some ⟨oc,od,.func (zAW x x (Dk st) (Df st) (As st) .none kV dc pm an cd ct),sl⟩/\zBo K cd x=true
 kp:zAT K (.ref f)=true
structure MtIn (K:zAa) (x qual:Str) (st:Stmt) (f:Addr):Prop where
 fn:zCp K (.ref f)=true
 ex:∃ (od an:Option Addr) (sl:Array (Option Value)) (oc kV dc pm cd ct:Value),K.lookup f=some ⟨oc,od,.func (zAW x qual (Dk st) (Df st) (As st) .none kV dc pm an cd ct),sl⟩/\zBo K cd qual=true
 kp:zAT K (.ref f)=true
structure ClIn (K:zAa) (x:Str) (C:Addr):Prop where
 ns:zAF K zCH x=some (some (.ref C))
 pg:zCc K C Str.empty=true
 hd:zCu K C=true
 po:PySem.W.plainOver K C=true
 sa:zAc K (.ref C) "__setattr__" = some (some (.builtin "object.__setattr__"))
 mi:zCm K C=true
 kp:zAT K (.ref C)=true
theorem ClIn.cl {K:zAa} {x:Str} {C:Addr} (c:ClIn K x C):Cls K C:=⟨c.pg,c.hd,c.po,c.sa⟩
section
variable {K:zAa} {h:Heap} {mg:Str->Option Value} {x qual:Str} {st:Stmt} {f:Addr} {ps:List Str}
theorem DfIn.df (d:DfIn K x st f) (X:K.In h) (G:h.Ns zCH mg)
  (hb:∀ (kV dc pm:Value) (an:Option Addr) (cd ct:Value) (us:List Value),us.length=ps.length->bindArgs (zAW x x (Dk st) (Df st) (As st) .none kV dc pm an cd ct) ⟨us,[]⟩=pure (ps.zip us)):Def K mg x st ps:=by
 obtain⟨od,an,sl,oc,kV,dc,pm,cd,ct,l,c⟩:=d.ex;have F:=N1 (x:=x) (qual:=x) (st:=st) l c d.kp;exact⟨f,_,F,F.binds hb,zAB X G d.ns⟩
theorem MtIn.get (d:MtIn K x qual st f)
  (hb:∀ (kV dc pm:Value) (an:Option Addr) (cd ct:Value) (us:List Value),us.length=ps.length->bindArgs (zAW x qual (Dk st) (Df st) (As st) .none kV dc pm an cd ct) ⟨us,[]⟩=pure (ps.zip us)):∃ fd,Fun K x qual st f fd/\Binds K fd ps []:=by
 obtain⟨od,an,sl,oc,kV,dc,pm,cd,ct,l,c⟩:=d.ex;have F:=N1 (x:=x) (qual:=qual) (st:=st) l c d.kp;exact⟨_,F,F.binds hb⟩
end
section
variable {Pr:List Value->Prop}
theorem D9 (h:∀ a,Pr [a]):∀ us,us.length=1->Pr us
 | [a],_=>h a
theorem Jc (h:∀ a b,Pr [a,b]):∀ us,us.length=2->Pr us
 | [a,b],_=>h a b
theorem E4 (h:∀ a b c,Pr [a,b,c]):∀ us,us.length=3->Pr us
 | [a,b,c],_=>h a b c
theorem HM (h:∀ a b c d,Pr [a,b,c,d]):∀ us,us.length=4->Pr us
 | [a,b,c,d],_=>h a b c d
theorem PH (h:∀ a b c d e,Pr [a,b,c,d,e]):∀ us,us.length=5->Pr us
 | [a,b,c,d,e],_=>h a b c d e
end
theorem vE {α β:Type} {f:α->β} {y:β} {v:α} {R:α->Prop} (e:y=f v) (h:R v):∃ x,y=f x/\R x:=⟨v,e,h⟩
theorem DfIn.of {K:zAa} {x:Str} {st:Stmt} {f:Addr} {od an:Option Addr} {sl:Array (Option Value)} {oc kV dc pm cd ct:Value} (n:zAF K zCH x=some (some (.ref f))) (l:K.lookup f=some ⟨oc,od,.func (zAW x x (Dk st) (Df st) (As st) .none kV dc pm an cd ct),sl⟩) (c:zBo K cd x=true) (k:zAT K (.ref f)=true):DfIn K x st f:=⟨n,⟨od,an,sl,oc,kV,dc,pm,cd,ct,l,c⟩,k⟩
theorem MtIn.of {K:zAa} {x qual:Str} {st:Stmt} {f:Addr} {od an:Option Addr} {sl:Array (Option Value)} {oc kV dc pm cd ct:Value} (n:zCp K (.ref f)=true) (l:K.lookup f=some ⟨oc,od,.func (zAW x qual (Dk st) (Df st) (As st) .none kV dc pm an cd ct),sl⟩) (c:zBo K cd qual=true) (k:zAT K (.ref f)=true):MtIn K x qual st f:=⟨n,⟨od,an,sl,oc,kV,dc,pm,cd,ct,l,c⟩,k⟩
theorem vF {α β γ δ:Type} {f:α->β} {g : γ -> δ} {x:β} {y:δ} {a:α} {b : γ} {R:α -> γ -> Prop} (e:x=f a) (e':y=g b) (h:R a b):∃ i j,x=f i/\y=g j/\R i j:=⟨a,b,e,e',h⟩
theorem vI {x y:V} {A:Addr->List V->Prop} {B:List V->Int->V->Prop} {R:V->Prop} {p:Addr} {xs:List V} {i:Int} {v:V} (e:x = .ref p) (e':y = .int i) (a:A p xs) (b:B xs i v) (h:R v):∃ p xs i v,x = .ref p/\y = .int i/\A p xs/\B xs i v/\R v:=⟨p,xs,i,v,e,e',a,b,h⟩
theorem vC {α:Type} {l:List α} {a:α} {t:List α} {R:α->List α->Prop} (e:l=a::t) (h:R a t):∃ v r,l=v::r/\R v r:=⟨a,t,e,h⟩
end L2
namespace CRP
abbrev Tr3:=Int×Int×Int
def fwFrom:List (Int×Int)->Int->Int->Int
 | [],_,_ => -1
 | (a,b)::r,k,c=>if c<a\/b<=c then k else fwFrom r (k+1) c
def fw (sp:List (Int×Int)) (c:Int):Int:=fwFrom sp 0 c
theorem R5 {l c:Int} (h:l<=c):∀ (sp:List (Int×Int)) (k:Int),(∀ p∈sp,¬ (l<p.1/\p.1<=c)/\¬ (l<p.2/\p.2<=c))->fwFrom sp k c=fwFrom sp k l
 | [],_,_=>rfl
 | (a,b)::r,k,no=>by
  have ih:=R5 h r (k+1) fun p hp=>no p (zAf _ hp);obtain⟨n1,n2⟩:=no (a,b) zAj;unfold fwFrom
  dsimp only at n1 n2
  by_cases z:c<a\/b<=c
  ·rw[if_pos z,if_pos (by lia)]
  ·rw[if_neg z,if_neg (by lia),ih]
def Fy:List Tr3->Int->Int->Int->List Tr3
 | [],lo,hi,k=>[(lo,hi,k)]
 | [(l,h,k')],lo,hi,k=>if k'=k then [(l,hi,k)] else [(l,h,k'),(lo,hi,k)]
 | x::y::r,lo,hi,k=>x::Fy (y::r) lo hi k
theorem stepP_snoc (l h k' lo hi k:Int):∀ init:List Tr3,Fy (init++[(l,h,k')]) lo hi k=if k'=k then init++[(l,hi,k)] else init++[(l,h,k')]++[(lo,hi,k)]
 | []=>by
  show Fy [(l,h,k')] lo hi k=_;unfold Fy;by_cases z:k'=k
  ·rw[if_pos z,if_pos z]; rfl
  ·rw[if_neg z,if_neg z]; rfl
 | [x]=>by
  have ih:=stepP_snoc l h k' lo hi k [];show x::Fy [(l,h,k')] lo hi k=_;rw[show Fy [(l,h,k')] lo hi k=_ from ih];by_cases z:k'=k
  ·rw[if_pos z,if_pos z]; rfl
  ·rw[if_neg z,if_neg z]; rfl
 | x::y::r=>by
  have ih:=stepP_snoc l h k' lo hi k (y::r);show x::Fy (y::r++[(l,h,k')]) lo hi k=_;rw[ih];by_cases z:k'=k
  ·rw[if_pos z,if_pos z]; rfl
  ·rw[if_neg z,if_neg z]; rfl
def Ch (f:Int->Int):Int->Option Int->List Tr3->Int->Prop
 | s,_,[],e=>s=e
 | s,lk,(l,h,k)::r,e=>l=s/\l<h/\lk≠some k/\(∀ c,l<=c->c<h->f c=k)/\Ch f h (some k) r e
theorem Ch.step {f:Int->Int} {hi k:Int}:∀ {told:List Tr3} {s:Int} {lk:Option Int} {e:Int},Ch f s lk told e->e<hi->(∀ c,e<=c->c<hi->f c=k)->(told=[]->lk≠some k)->Ch f s lk (Fy told e hi k) hi
 | [],s,lk,e,h,h1,h2,h3=>by
  have e':s=e:=h;subst e';exact⟨rfl,h1,h3 rfl,h2,rfl⟩
 | [(l,h,k')],s,lk,e,⟨a1,a2,a3,a4,a5⟩,h1,h2,h3=>by
  have e':h=e:=a5;subst e';unfold Fy;by_cases z:k'=k
  ·rw[if_pos z]
   refine⟨a1,by lia,by rw[<- z]; exact a3,fun c c1 c2=>?_,rfl⟩;by_cases q:c<h
   ·rw[a4 c c1 q,z]
   ·exact h2 c (by lia) c2
  ·rw[if_neg z]
   exact⟨a1,a2,a3,a4,rfl,h1,fun q=>z (Option.some.inj q),h2,rfl⟩
 | (l,h,k')::y::r,s,lk,e,⟨a1,a2,a3,a4,a5⟩,h1,h2,h3=>by
  unfold Fy;exact⟨a1,a2,a3,a4,Ch.step (told:=y::r) a5 h1 h2 fun z=>by cases z⟩
def foldP (sp:List (Int×Int)) (ms:List Int) (i:Nat):List Tr3:=(zAM i).foldl (fun told j=>Fy told (ms.getD j 0) (ms.getD (j+1) 0) (fw sp (ms.getD j 0))) []
theorem foldP_succ (sp:List (Int×Int)) (ms:List Int) (i:Nat):foldP sp ms (i+1)=Fy (foldP sp ms i) (ms.getD i 0) (ms.getD (i+1) 0) (fw sp (ms.getD i 0)):=by
 unfold foldP;rw[zBO,List.foldl_append];rfl
theorem Vc (lo hi k:Int):∀ told:List Tr3,(Fy told lo hi k).length<=told.length+1
 | []=>by unfold Fy; simp
 | [(l,h,k')]=>by unfold Fy; split <;> simp
 | x::y::r=>by
  have:=Vc lo hi k (y::r);unfold Fy;simp only [zAg] at *
  lia
theorem foldP_len (sp:List (Int×Int)) (ms:List Int):∀ i,(foldP sp ms i).length<=i
 | 0=>zAD _
 | i+1=>by
  rw[foldP_succ];have:=foldP_len sp ms i;have:=Vc (ms.getD i 0) (ms.getD (i+1) 0) (fw sp (ms.getD i 0)) (foldP sp ms i)
  lia
theorem get_lt {ms:List Int} (h:ms.Pairwise (· < ·)) {i j:Nat} (hij:i<j) (hj:j<ms.length):ms.getD i 0<ms.getD j 0:=by
 rw[zAt,zAt,zAe (by lia),zAe hj];exact zBe.mp h i j (by lia) hj hij
theorem fold_ch {sp:List (Int×Int)} {ms:List Int} (h:ms.Pairwise (· < ·)) (hb:∀ p∈sp,p.1∈ms/\p.2∈ms):∀ i,i<ms.length->ms.getD 0 0=0->Ch (fw sp) 0 none (foldP sp ms i) (ms.getD i 0)
 | 0,_,h0=>h0.symm
 | i+1,hi,h0=>by
  have ih:=fold_ch h hb i (by lia) h0;rw[foldP_succ];refine ih.step (get_lt h (zBx _) hi) (fun c c1 c2=>?_) (fun _ z=>by cases z);refine R5 c1 sp 0 fun p hp=>?_;have no:∀ y∈ms,¬ (ms.getD i 0<y/\y<=c):=fun y hy ⟨z1,z2⟩=>by
   obtain⟨j,hj,e⟩:=zAY hy;have ej:ms.getD j 0=y:=by rw[zAt,zAe hj]; exact e
   rcases zBD j (i+1) with q | q | q
   ·rcases Nat.lt_or_ge j i with q' | q'
    ·have:=get_lt h q' (by lia); lia
    ·have:j=i:=by lia
     subst this; lia
   ·subst q; lia
   ·have:=get_lt h q hj; lia
  exact⟨no _ (hb p hp).1,no _ (hb p hp).2⟩
theorem Ch.head {f:Int->Int} {s:Int} {lk:Option Int} {e:Int}:∀ {ps:List Tr3},Ch f s lk ps e->s<e->∃ p,ps[0]?=some p/\p.1=s
 | [],h,z=>absurd (show s=e from h) (by lia)
 | (l,hh,k)::r,h,_=>⟨_,rfl,h.1⟩
theorem Ch.get {f:Int->Int}:∀ {ps:List Tr3} {s:Int} {lk:Option Int} {e:Int} {i:Nat} {p:Tr3},Ch f s lk ps e->ps[i]?=some p->p.1<p.2.1/\(∀ c,p.1<=c->c<p.2.1->f c=p.2.2)/\(p.2.1<e->∃ q,ps[i+1]?=some q/\q.1=p.2.1)/\s<=p.1/\p.2.1<=e
 | [],_,_,_,_,_,_,z=>by simp at z
 | (l,h,k)::r,s,lk,e,0,p,⟨a1,a2,a3,a4,a5⟩,z=>by
  simp at z;subst z;refine⟨a2,a4,fun q=>?_,by show s<=l; lia,?_⟩
  ·obtain⟨p,h1,h2⟩:=a5.head q
   exact⟨p,by simpa using h1,h2⟩
  ·show h<=e
   cases r with
   | nil=>exact Int.le_of_eq (show h=e from a5)
   | cons x r=>
    have:=Ch.get (i:=0) a5 rfl
    lia
 | (l,h,k)::r,s,lk,e,i+1,p,⟨a1,a2,a3,a4,a5⟩,z=>by
  obtain⟨b1,b2,b3,b4,b5⟩:=Ch.get (i:=i) a5 (by simpa using z);refine⟨b1,b2,fun q=>?_,by lia,b5⟩;obtain⟨y,h1,h2⟩:=b3 q;exact⟨y,by simpa using h1,h2⟩
end CRP
namespace CR
abbrev Rn:=Int×Int
def inR (ps:List Rn) (n:Int):Bool:=ps.any fun p=>decide (p.1<=n)&&decide (n<p.2)
structure Frm (ps:List Rn):Prop where
 lt:∀ p∈ps,p.1<p.2
 pw:ps.Pairwise fun p q=>p.2<q.1
theorem inR_iff {ps:List Rn} {n:Int}:inR ps n=true↔∃ p∈ps,p.1<=n/\n<p.2:=by
 unfold inR;rw[zCg];constructor
 ·rintro ⟨p,hp,h⟩
  rw[zAv,decide_eq_true_eq,decide_eq_true_eq] at h;exact⟨p,hp,h⟩
 ·rintro ⟨p,hp,h⟩
  exact⟨p,hp,by rw[zAv,decide_eq_true_eq,decide_eq_true_eq]; exact h⟩
theorem Qd (ps qs:List Rn) (n:Int):inR (ps++qs) n=(inR ps n||inR qs n):=by unfold inR; rw[List.any_append]
theorem Gp {a b:Bool} (h:a=true↔b=true):a=b:=by cases a <;> cases b <;> simp_all
def cutM (lo hi:Int) (p:Rn):Rn:=(if lo>p.1 then lo else p.1,if hi<p.2 then hi else p.2)
def cutW (ps:List Rn) (lo hi:Int):List Rn:=(ps.map (cutM lo hi)).filter fun p=>decide (p.1<p.2)
theorem cutW_in (ps:List Rn) (lo hi n:Int):inR (cutW ps lo hi) n=(inR ps n&&(decide (lo<=n)&&decide (n<hi))):=by
 apply Gp;rw[zAv,zAv,decide_eq_true_eq,decide_eq_true_eq,inR_iff,inR_iff];constructor
 ·rintro ⟨p,hp,h1,h2⟩
  obtain⟨hp,_⟩:=zAL.mp hp;obtain⟨q,hq,rfl⟩:=zAr.mp hp;unfold cutM at h1 h2;refine⟨⟨q,hq,?_,?_⟩,?_,?_⟩ <;> (simp only at h1 h2; split at h1 <;> split at h2 <;> omega)
 ·rintro ⟨⟨q,hq,h1,h2⟩,h3,h4⟩
  refine⟨cutM lo hi q,zAL.mpr ⟨zAr.mpr ⟨q,hq,rfl⟩,?_⟩,?_,?_⟩
  ·rw[decide_eq_true_eq]; unfold cutM; simp only; split <;> split <;> omega
  ·unfold cutM; simp only; split <;> omega
  ·unfold cutM; simp only; split <;> omega
theorem Ji {ps:List Rn} (lo hi:Int) (h:ps.Pairwise fun p q=>p.2<q.1):Frm (cutW ps lo hi):=by
 refine⟨fun p hp=>?_,?_⟩
 ·exact of_decide_eq_true (zAL.mp hp).2
 ·refine List.Pairwise.filter _ ?_
  rw[zBF];refine h.imp ?_;intro p q h;unfold cutM;simp only
  split <;> split <;> lia
def below (ps:List Rn) (m:Int):Int:=(ps.map fun p=>if p.1<m then (if m<p.2 then m else p.2)-p.1 else 0).sum
def lowW:List Rn->Int->List Rn
 | [],_=>[]
 | p::ps,n=>(if 0<n then [(p.1,if p.1+n<p.2 then p.1+n else p.2)] else [])++lowW ps (n-(p.2-p.1))
theorem Lf (p:Rn) (ps:List Rn) (m:Int):below (p::ps) m=(if p.1<m then (if m<p.2 then m else p.2)-p.1 else 0)+below ps m:=by
 unfold below; rw[zAH,List.sum_cons]
theorem BD:∀ {ps:List Rn} (m:Int),(∀ p∈ps,p.1<p.2)->0<=below ps m
 | [],_,_=>by unfold below; simp
 | p::ps,m,h=>by
  have ih:=BD (ps:=ps) m fun q hq=>h q (zAf _ hq);have:=h p zAj;rw[Lf]
  split
  ·split <;> lia
  ·lia
theorem Sn:∀ {ps:List Rn} {m:Int},(∀ p∈ps,m<=p.1)->below ps m=0
 | [],_,_=>by unfold below; simp
 | p::ps,m,h=>by
  have ih:=Sn (ps:=ps) (m:=m) fun q hq=>h q (zAf _ hq);have:=h p zAj;rw[Lf,ih]
  split <;> lia
theorem Ux:∀ {ps:List Rn} {n:Int},(∀ p∈ps,p.1<p.2)->n<=0->lowW ps n=[]
 | [],_,_,_=>rfl
 | p::ps,n,h,hn=>by
  have:=h p zAj;unfold lowW;rw[if_neg (by lia),Ux (ps:=ps) (fun q hq=>h q (zAf _ hq)) (by lia)];rfl
theorem U9:∀ {ps:List Rn},Frm ps->∀ n m:Int,inR (lowW ps n) m=(inR ps m&&decide (below ps m<n))
 | [],_,n,m=>by simp [lowW,inR]
 | p::ps,f,n,m=>by
  have hp:=f.lt p zAj;have f':Frm ps:=⟨fun q hq=>f.lt q (zAf _ hq),(zAO.mp f.pw).2⟩;have hq:=(zAO.mp f.pw).1;have ih:=U9 f' (n-(p.2-p.1)) m;unfold lowW;rw[Qd,ih,Lf];have e:inR (p::ps) m=(inR [p] m||inR ps m):=Qd [p] ps m;rw[e];have one:∀ q:Rn,inR [q] m=(decide (q.1<=m)&&decide (m<q.2)):=fun q=>by simp [inR]
  by_cases hm:m<p.2
  ·-- nothing behind p is concerned
   have b0:below ps m=0:=Sn fun q h=>by have:=hq q h; lia
   have r0:inR ps m=false:=by
    apply zBf.mpr;intro h;obtain⟨q,h1,h2,_⟩:=inR_iff.mp h;have:=hq q h1
    lia
   rw[b0,r0,one,zCs,Bool.or_false,Bool.or_false];apply Gp;by_cases hn:0<n
   ·rw[if_pos hn,one]
    simp only [zAv,decide_eq_true_eq];constructor
    ·rintro ⟨h1,h2⟩
     split at h2 <;> (refine⟨⟨h1,hm⟩,?_⟩; split <;> (try split) <;> lia)
    ·rintro ⟨⟨h1,h2⟩,h3⟩
     refine⟨h1,?_⟩
     split at h3
     ·split <;> lia
     ·split <;> lia
   ·rw[if_neg hn]
    simp only [zAv,decide_eq_true_eq];constructor
    ·intro h; exact absurd h (by simp [inR])
    ·rintro ⟨⟨h1,h2⟩,h3⟩
     split at h3 <;> (try split at h3) <;> lia
  ·have e1:inR [p] m=false:=by rw[one]; simp; lia
   have e2:inR (if 0<n then [(p.1,if p.1+n<p.2 then p.1+n else p.2)] else []) m=false:=by
    split
    ·rw[one]; simp only [Bool.and_eq_false_iff,decide_eq_false_iff_not]; right; split <;> lia
    ·rfl
   rw[e1,e2,Bool.false_or,Bool.false_or,if_pos (by lia),if_neg (by lia)]
   congr 1
   apply Gp;rw[decide_eq_true_eq,decide_eq_true_eq]
   lia
theorem Yx:∀ {ps:List Rn} {n:Int} {q:Rn},q∈lowW ps n->∃ p∈ps,q.1=p.1/\q.2<=p.2
 | [],_,_,h=>by simp [lowW] at h
 | p::ps,n,q,h=>by
  unfold lowW at h;rcases zAy.mp h with h | h
  ·split at h
   ·rw[zAk] at h
    subst h;refine⟨p,zAj,rfl,?_⟩;simp only
    split <;> lia
   ·cases h
  ·obtain⟨r,hr,h1,h2⟩:=Yx h
   exact⟨r,zAf _ hr,h1,h2⟩
theorem A6:∀ {ps:List Rn} (n:Int),Frm ps->Frm (lowW ps n)
 | [],_,_=>⟨fun _ h=>(nomatch h),.nil⟩
 | p::ps,n,f=>by
  have hp:=f.lt p zAj;have f':Frm ps:=⟨fun q hq=>f.lt q (zAf _ hq),(zAO.mp f.pw).2⟩;have hq:=(zAO.mp f.pw).1;have ih:=A6 (n-(p.2-p.1)) f';unfold lowW
  split
  ·refine⟨fun q h=>?_,?_⟩
   ·rcases zAy.mp h with h | h
    ·rw[zAk] at h
     subst h;simp only
     split <;> lia
    ·exact ih.lt q h
   ·rw[List.singleton_append,zAO]
    refine⟨fun q h=>?_,ih.pw⟩;obtain⟨r,hr,h1,_⟩:=Yx h;have:=hq r hr;simp only
    split <;> lia
  ·exact ih
theorem lowW_len:∀ (ps:List Rn) (n:Int),(lowW ps n).length<=ps.length
 | [],_=>zAl _
 | p::ps,n=>by
  have:=lowW_len ps (n-(p.2-p.1));unfold lowW;rw[zAo,zAg]
  split <;> simp <;> lia
def maxI (a b:Int):Int:=if b>a then b else a
def minI (a b:Int):Int:=if b<a then b else a
def leftW (e:Int):Int->List Rn->List Rn
 | b,[]=>if b<e then [(b,e)] else []
 | b,q::qs=>(if b<minI q.1 e then [(b,minI q.1 e)] else [])++leftW e (maxI b q.2) qs
def outW (ps qs:List Rn):List Rn:=(ps.map fun p=>leftW p.2 p.1 qs).flatten
theorem Sk (e:Int):∀ {qs:List Rn},(∀ q∈qs,q.1<q.2)->(qs.Pairwise fun p q=>p.2<q.1)->∀ b m:Int,inR (leftW e b qs) m=((decide (b<=m)&&decide (m<e)) && !inR qs m)
 | [],_,_,b,m=>by
  unfold leftW;apply Gp
  split <;> simp [inR] <;> omega
 | q::qs,hl,hw,b,m=>by
  have hq:=hl q zAj;have hp:=(zAO.mp hw).1;have ih:=Sk e (fun q h=>hl q (zAf _ h)) (zAO.mp hw).2 (maxI b q.2) m;unfold leftW;have eq:inR (q::qs) m=(inR [q] m||inR qs m):=Qd [q] qs m;rw[Qd,ih,eq];have one:∀ q:Rn,inR [q] m=(decide (q.1<=m)&&decide (m<q.2)):=fun q=>by simp [inR]
  rw[one];have mn:∀ x,x<minI q.1 e↔x<q.1/\x<e:=fun x=>by unfold minI; split <;> omega
  have e1:inR (if b<minI q.1 e then [(b,minI q.1 e)] else []) m=(decide (b<=m)&&(decide (m<q.1)&&decide (m<e))):=by
   apply Gp;by_cases hb:b<minI q.1 e
   ·rw[if_pos hb,one]
    simp only [zAv,decide_eq_true_eq];rw[mn]
   ·rw[if_neg hb]
    simp only [zAv,decide_eq_true_eq];constructor
    ·intro h; exact absurd h (by simp [inR])
    ·intro h
     exact absurd ((mn b).mpr ⟨by omega,by omega⟩) hb
  rw[e1];have far:m<q.1->inR qs m=false:=fun h=>by
   apply zBf.mpr;intro h';obtain⟨r,h1,h2,_⟩:=inR_iff.mp h';have:=hp r h1;omega
  have mx:∀ x,maxI b q.2<=x↔b<=x/\q.2<=x:=fun x=>by unfold maxI; split <;> omega
  apply Gp;rw[Bool.or_eq_true];simp only [zAv,decide_eq_true_eq,zBp,Bool.or_eq_false_iff,Bool.and_eq_false_iff,decide_eq_false_iff_not];rw[mx];constructor
  ·rintro (⟨h1,h2,h3⟩ | ⟨⟨⟨h1,h2⟩,h3⟩,h4⟩)
   ·exact⟨⟨h1,h3⟩,.inl (by omega),far h2⟩
   ·exact⟨⟨h1,h3⟩,.inr (by omega),h4⟩
  ·rintro ⟨⟨h1,h2⟩,h3,h4⟩
   by_cases h5:m<q.1
   ·exact .inl ⟨h1,h5,h2⟩
   ·refine .inr ⟨⟨⟨h1,?_⟩,h2⟩,h4⟩
    rcases h3 with h3 | h3 <;> omega
set_option tactic.hygienic true in
theorem Hv (e:Int):∀ {qs:List Rn} {b:Int} {r:Rn},r∈leftW e b qs->b<=r.1/\r.1<r.2/\r.2<=e
 | [],b,r,h=>by
  unfold leftW at h
  split at h
  ·rw[zAk] at h; subst h; simp only; lia
  ·cases h
 | q::qs,b,r,h=>by
  unfold leftW at h;rcases zAy.mp h with h | h
  ·split at h
   ·rw[zAk] at h; subst h; rename_i hh; simp only; refine⟨Int.le_refl _,hh,?_⟩; unfold minI; split <;> lia
   ·cases h
  ·have:=Hv e h
   have hx:b<=maxI b q.2:=by unfold maxI; split <;> lia
   lia
theorem C0 (e:Int):∀ {qs:List Rn},(∀ q∈qs,q.1<q.2)->∀ b:Int,(leftW e b qs).Pairwise fun p q=>p.2<q.1
 | [],_,b=>by unfold leftW; split <;> simp
 | q::qs,hl,b=>by
  have hq:=hl q zAj;have ih:=C0 e (fun q h=>hl q (zAf _ h)) (maxI b q.2);unfold leftW
  split
  ·rw[List.singleton_append,zAO]
   refine⟨fun r h=>?_,ih⟩;have h1:=Hv e h;have hx:q.2<=maxI b q.2:=by unfold maxI; split <;> lia
   simp only;have:minI q.1 e<=q.1:=by unfold minI; split <;> lia
   lia
  ·exact ih
theorem outW_in {ps qs:List Rn} (fq:Frm qs) (m:Int):inR (outW ps qs) m=(inR ps m && !inR qs m):=by
 apply Gp;rw[zAv,zBp,inR_iff,inR_iff];unfold outW;constructor
 ·rintro ⟨r,hr,h1,h2⟩
  obtain⟨l,hl,hr⟩:=zBI.mp hr;obtain⟨p,hp,rfl⟩:=zAr.mp hl;have z:inR (leftW p.2 p.1 qs) m=true:=inR_iff.mpr ⟨r,hr,h1,h2⟩;rw[Sk p.2 fq.lt fq.pw] at z;simp only [zAv,decide_eq_true_eq,zBp] at z;exact⟨⟨p,hp,z.1.1,z.1.2⟩,z.2⟩
 ·rintro ⟨⟨p,hp,h1,h2⟩,h3⟩
  have z:inR (leftW p.2 p.1 qs) m=true:=by
   rw[Sk p.2 fq.lt fq.pw];simp only [zAv,decide_eq_true_eq,zBp];exact⟨⟨h1,h2⟩,h3⟩
  obtain⟨r,hr,h⟩:=inR_iff.mp z;exact⟨r,zBI.mpr ⟨_,zAr.mpr ⟨p,hp,rfl⟩,hr⟩,h⟩
theorem outW_frm {ps qs:List Rn} (fp:Frm ps) (fq:Frm qs):Frm (outW ps qs):=by
 refine⟨fun r hr=>?_,?_⟩
 ·obtain⟨l,hl,hr⟩:=zBI.mp hr
  obtain⟨p,hp,rfl⟩:=zAr.mp hl;exact (Hv p.2 hr).2.1
 ·unfold outW
  rw[List.pairwise_flatten];refine⟨fun l hl=>?_,?_⟩
  ·obtain⟨p,hp,rfl⟩:=zAr.mp hl
   exact C0 p.2 fq.lt p.1
  ·rw[zBF]
   refine fp.pw.imp ?_;intro p q h r hr t ht;have h1:=Hv p.2 hr;have h2:=Hv q.2 ht;omega
theorem leftW_len (e:Int):∀ (qs:List Rn) (b:Int),(leftW e b qs).length<=qs.length+1
 | [],b=>by unfold leftW; split <;> simp
 | q::qs,b=>by
  have:=leftW_len e qs (maxI b q.2);unfold leftW;rw[zAo,zAg]
  split <;> simp <;> lia
theorem outW_len (ps qs:List Rn):(outW ps qs).length<=ps.length*(qs.length+1):=by
 unfold outW
 induction ps with
 | nil=>simp
 | cons p ps ih=>
  have:=leftW_len p.2 qs p.1;rw[zAH,zBv,zAo,zAg,Nat.add_mul];omega
theorem cutW_len (ps:List Rn) (lo hi:Int):(cutW ps lo hi).length<=ps.length:=by
 unfold cutW;have:=zAI (fun p:Rn=>decide (p.1<p.2)) (ps.map (cutM lo hi));rw[zAb] at this;exact this
theorem lowW_nil (n:Int):lowW [] n=[]:=rfl
theorem lowW_cons (p:Rn) (ps:List Rn) (n:Int):lowW (p::ps) n=(if 0<n then [(p.1,if p.1+n<p.2 then p.1+n else p.2)] else [])++lowW ps (n-(p.2-p.1)):=rfl
theorem leftW_nil (e b:Int):leftW e b []=if b<e then [(b,e)] else []:=rfl
theorem leftW_cons (e b:Int) (q:Rn) (qs:List Rn):leftW e b (q::qs)=(if b<minI q.1 e then [(b,minI q.1 e)] else [])++leftW e (maxI b q.2) qs:=rfl
end CR
namespace CRT
open CR CRP
section
variable {ν : Type}
abbrev Sx (ν : Type):=Int×Int × ν × Int
abbrev Av (ν : Type) := ν × (Int×Int)×Option Int
def payW (c:Av ν) (un:List Rn):List Rn:=match c.2.2 with
 | none=>cutW un c.2.1.1 c.2.1.2
 | some n=>lowW (cutW un c.2.1.1 c.2.1.2) n
def tag (nm : ν) (k:Int) (ps:List Rn):List (Sx ν):=ps.map fun p=>(p.1,p.2,nm,k)
def paidS:List (Av ν)->List Rn->List (Sx ν)
 | [],_=>[]
 | c::cs,un=>tag c.1 (-1) (payW c un)++paidS cs (outW un (payW c un))
def leftS:List (Av ν)->List Rn->List Rn
 | [],un=>un
 | c::cs,un=>leftS cs (outW un (payW c un))
def borneS (nm : ν) (g:Int->Int) (parts:List Tr3) (un:List Rn):List (Sx ν):=(parts.map fun p=>tag nm (g p.2.2) (cutW un p.1 p.2.1)).flatten
def F3 (S:List (Sx ν)) (n:Int):Prop:=∃ s∈S,s.1<=n/\n<s.2.1
theorem Ww {S T:List (Sx ν)} {n:Int}:F3 (S++T) n↔F3 S n\/F3 T n:=by
 unfold F3;constructor
 ·rintro ⟨s,hs,h⟩
  rcases zAy.mp hs with z | z
  ·exact .inl ⟨s,z,h⟩
  ·exact .inr ⟨s,z,h⟩
 ·rintro (⟨s,hs,h⟩ | ⟨s,hs,h⟩)
  ·exact⟨s,zAy.mpr (.inl hs),h⟩
  ·exact⟨s,zAy.mpr (.inr hs),h⟩
theorem Qe {nm : ν} {k:Int} {ps:List Rn} {n:Int}:F3 (tag nm k ps) n↔inR ps n=true:=by
 rw[inR_iff];unfold F3 tag;constructor
 ·rintro ⟨s,hs,h⟩
  obtain⟨p,hp,rfl⟩:=zAr.mp hs;exact⟨p,hp,h⟩
 ·rintro ⟨p,hp,h⟩
  exact⟨_,zAr.mpr ⟨p,hp,rfl⟩,h⟩
def apart (s t:Sx ν):Prop:=(s.2.1<=t.1\/t.2.1<=s.1)/\(s.2.1=t.1\/t.2.1=s.1->s.2.2≠t.2.2)
structure Sep (S:List (Sx ν)):Prop where
 lt:∀ s∈S,s.1<s.2.1
 pw:S.Pairwise apart
theorem apart.symm {s t:Sx ν} (h:apart s t):apart t s:=⟨h.1.symm,fun z e=>h.2 z.symm e.symm⟩
theorem Sep.nil:Sep ([]:List (Sx ν)):=⟨fun _ h=>(nomatch h),.nil⟩
theorem R4 {nm : ν} {k:Int} {ps:List Rn} (f:Frm ps):Sep (tag nm k ps):=by
 refine⟨fun s hs=>?_,?_⟩
 ·obtain⟨p,hp,rfl⟩:=zAr.mp hs
  exact f.lt p hp
 ·unfold tag
  rw[zBF];refine f.pw.imp_of_mem fun {p q} hp hq h=>⟨.inl (by show p.2<=q.1; lia),fun z=>?_⟩;have:=f.lt p hp;have:=f.lt q hq;rcases z with z | z
  ·have z':p.2=q.1:=z
   lia
  ·have z':q.2=p.1:=z
   lia
theorem Wd {S T:List (Sx ν)} (a:Sep S) (b:Sep T) (dj:∀ n,F3 S n->F3 T n->False) (ky:∀ s∈S,∀ t∈T,(s.2.1=t.1\/t.2.1=s.1)->s.2.2≠t.2.2):Sep (S++T):=by
 refine⟨fun s hs=>?_,List.pairwise_append.mpr ⟨a.pw,b.pw,fun s hs t ht=>⟨?_,ky s hs t ht⟩⟩⟩
 ·rcases zAy.mp hs with z | z
  ·exact a.lt s z
  ·exact b.lt s z
 ·have l1:=a.lt s hs
  have l2:=b.lt t ht;by_cases c1:s.2.1<=t.1
  ·exact .inl c1
  by_cases c2:t.2.1<=s.1
  ·exact .inr c2
  exfalso;by_cases c3:s.1<=t.1
  ·exact dj t.1 ⟨s,hs,c3,by lia⟩ ⟨t,ht,by lia,l2⟩
  ·exact dj s.1 ⟨s,hs,by lia,l1⟩ ⟨t,ht,by lia,by lia⟩
theorem payW_frm {c:Av ν} {un:List Rn} (f:Frm un):Frm (payW c un):=by
 unfold payW
 split
 ·exact Ji _ _ f.pw
 ·exact A6 _ (Ji _ _ f.pw)
theorem GE {c:Av ν} {un:List Rn} (f:Frm un) {n:Int} (h:inR (payW c un) n=true):inR un n=true:=by
 unfold payW at h
 split at h
 ·rw[cutW_in,zAv] at h
  exact h.1
 ·rw[U9 (Ji _ _ f.pw),zAv,cutW_in,zAv] at h
  exact h.1.1
theorem leftS_frm:∀ {cs:List (Av ν)} {un:List Rn},Frm un->Frm (leftS cs un)
 | [],_,f=>f
 | c::cs,un,f=>leftS_frm (cs:=cs) (outW_frm f (payW_frm f))
theorem leftS_sub:∀ {cs:List (Av ν)} {un:List Rn} {n:Int},Frm un->inR (leftS cs un) n=true->inR un n=true
 | [],_,_,_,h=>h
 | c::cs,un,n,f,h=>by
  have:=leftS_sub (cs:=cs) (outW_frm f (payW_frm f)) h;rw[outW_in (payW_frm f),zAv] at this;exact this.1
theorem paidS_in:∀ {cs:List (Av ν)} {un:List Rn} {n:Int},Frm un->(F3 (paidS cs un) n↔inR un n=true/\inR (leftS cs un) n=false)
 | [],un,n,f=>by
  constructor
  ·rintro ⟨s,hs,_⟩
   cases hs
  ·rintro ⟨h1,h2⟩
   have h2':inR un n=false:=h2;rw[h1] at h2';cases h2'
 | c::cs,un,n,f=>by
  have fo:=outW_frm f (payW_frm (c:=c) f);unfold paidS leftS;rw[Ww,Qe,paidS_in (cs:=cs) fo,outW_in (payW_frm f),zAv,zBp];constructor
  ·rintro (h | ⟨⟨h1,h2⟩,h3⟩)
   ·refine⟨GE f h,?_⟩
    cases z:inR (leftS cs (outW un (payW c un))) n with
    | false=>rfl
    | true=>
     have:=leftS_sub fo z;rw[outW_in (payW_frm f),zAv,zBp] at this;rw[h] at this;cases this.2
   ·exact⟨h1,h3⟩
  ·rintro ⟨h1,h2⟩
   cases z:inR (payW c un) n with
   | true=>exact .inl rfl
   | false=>exact .inr ⟨⟨h1,rfl⟩,h2⟩
theorem paidS_key:∀ {cs:List (Av ν)} {un:List Rn} {s:Sx ν},s∈paidS cs un->s.2.2.2 = -1/\s.2.2.1∈cs.map (·.1)
 | [],_,_,h=>nomatch h
 | c::cs,un,s,h=>by
  unfold paidS at h;rcases zAy.mp h with z | z
  ·obtain⟨p,_,rfl⟩:=zAr.mp z
   exact⟨rfl,zAj⟩
  ·obtain⟨a,b⟩:=paidS_key z
   exact⟨a,zAf _ b⟩
theorem Uz:∀ {cs:List (Av ν)} {un:List Rn},Frm un->(cs.map (·.1)).Nodup->Sep (paidS cs un)
 | [],_,_,_=>Sep.nil
 | c::cs,un,f,nd=>by
  rw[zAH,zAX] at nd;have fo:=outW_frm f (payW_frm (c:=c) f);unfold paidS;refine Wd (R4 (payW_frm f)) (Uz fo nd.2) (fun n h1 h2=>?_) (fun s hs t ht _ e=>?_)
  ·rw[Qe] at h1
   rw[paidS_in fo,outW_in (payW_frm f),zAv,zBp] at h2;rw[h1] at h2;cases h2.1.2
  ·obtain⟨p,_,rfl⟩:=zAr.mp hs
   have:=(paidS_key ht).2;rw[<- e] at this;exact nd.1 this
theorem Ld (nm : ν) (g:Int->Int) (p:Tr3) (ps:List Tr3) (un:List Rn):borneS nm g (p::ps) un=tag nm (g p.2.2) (cutW un p.1 p.2.1)++borneS nm g ps un:=by
 unfold borneS;rw[zAH,zBv]
theorem HV {f:Int->Int}:∀ {ps:List Tr3} {a:Int} {lk:Option Int} {e:Int},Ch f a lk ps e->a<=e
 | [],a,lk,e,h=>by
  have h':a=e:=h
  lia
 | (l,h,k)::r,a,lk,e,⟨a1,a2,a3,a4,a5⟩=>by
  have:=HV a5
  lia
theorem Mt {f:Int->Int} {nm : ν} {g:Int->Int} {un:List Rn} {n:Int}:∀ {ps:List Tr3} {a:Int} {lk:Option Int} {e:Int},Ch f a lk ps e->(F3 (borneS nm g ps un) n↔inR un n=true/\a<=n/\n<e)
 | [],a,lk,e,h=>by
  have h':a=e:=h;constructor
  ·rintro ⟨s,hs,_⟩
   cases hs
  ·rintro ⟨_,h1,h2⟩
   lia
 | (l,h,k)::r,a,lk,e,⟨a1,a2,a3,a4,a5⟩=>by
  have le:=HV a5;rw[Ld,Ww,Qe,Mt a5,cutW_in,zAv,zAv,decide_eq_true_eq,decide_eq_true_eq]
  dsimp only
  constructor
  ·rintro (⟨h1,h2,h3⟩ | ⟨h1,h2,h3⟩)
   ·exact⟨h1,by lia,by lia⟩
   ·exact⟨h1,by lia,h3⟩
  ·rintro ⟨h1,h2,h3⟩
   by_cases c:n<h
   ·exact .inl ⟨h1,by lia,c⟩
   ·exact .inr ⟨h1,by lia,h3⟩
theorem borne_mem {nm : ν} {g:Int->Int} {un:List Rn} {s:Sx ν}:∀ {ps:List Tr3},s∈borneS nm g ps un->∃ p∈ps,s.2.2=(nm,g p.2.2)/\∃ q∈cutW un p.1 p.2.1,s.1=q.1/\s.2.1=q.2
 | [],h=>nomatch h
 | p::ps,h=>by
  rw[Ld] at h;rcases zAy.mp h with z | z
  ·obtain⟨q,hq,rfl⟩:=zAr.mp z
   exact⟨p,zAj,rfl,q,hq,rfl,rfl⟩
  ·obtain⟨p',h1,h2⟩:=borne_mem z
   exact⟨p',zAf _ h1,h2⟩
theorem cutW_bd {un:List Rn} {lo hi:Int} {q:Rn} (h:q∈cutW un lo hi):lo<=q.1/\q.2<=hi/\q.1<q.2:=by
 unfold cutW at h;obtain⟨h1,h2⟩:=zAL.mp h;obtain⟨p,_,rfl⟩:=zAr.mp h1;have:=of_decide_eq_true h2;unfold cutM at this ⊢
 dsimp only at this ⊢
 refine⟨?_,?_,this⟩
 ·split <;> lia
 ·split <;> lia
theorem Vb {f:Int->Int} {nm : ν} {g:Int->Int} {un:List Rn} (fu:Frm un):∀ {ps:List Tr3} {a:Int} {lk:Option Int} {e:Int},Ch f a lk ps e->(∀ p∈ps,∀ q∈ps,g p.2.2=g q.2.2->p.2.2=q.2.2)->Sep (borneS nm g ps un)
 | [],_,_,_,_,_=>Sep.nil
 | (l,h,k)::r,a,lk,e,⟨a1,a2,a3,a4,a5⟩,gi=>by
  rw[Ld];refine Wd (R4 (Ji _ _ fu.pw)) (Vb fu a5 fun p hp q hq=>gi p (zAf _ hp) q (zAf _ hq)) (fun n h1 h2=>?_) (fun s hs t ht tc e'=>?_)
  ·rw[Qe,cutW_in,zAv,zAv,decide_eq_true_eq,decide_eq_true_eq] at h1
   rw[Mt a5] at h2;have:=h1.2.2
   dsimp only at this
   lia
  ·obtain⟨q,hq,rfl⟩:=zAr.mp hs
   obtain⟨b1,b2,b3⟩:=cutW_bd hq
   dsimp only at b1 b2
   obtain⟨p,hp,ek,q',hq',e1,e2⟩:=borne_mem ht;obtain⟨c1,c2,c3⟩:=cutW_bd hq';have nx:∀ {ps:List Tr3} {b:Int} {lk:Option Int} {e:Int},Ch f b lk ps e->∀ p∈ps,b<=p.1/\(p.1=b->lk≠some p.2.2):=by
    intro ps
    induction ps with
    | nil=>intro b lk e _ p hp; cases hp
    | cons x ps ih=>
     obtain⟨l',h',k'⟩:=x;rintro b lk e ⟨d1,d2,d3,d4,d5⟩ p hp;rcases zAn.mp hp with z | z
     ·subst z
      exact⟨by show b<=l'; lia,fun _=>d3⟩
     ·have:=(ih d5 p z).1
      exact⟨by lia,fun y=>by lia⟩
   obtain⟨n1,n2⟩:=nx a5 p hp;have ek':g k=g p.2.2:=by
    have:=congrArg (fun z : ν × Int=>z.2) (e'.trans ek);exact this
   have kk:=gi (l,h,k) zAj p (zAf _ hp) ek';have pe:p.1=h:=by
    rcases tc with z | z
    ·have z':q.2=t.1:=z
     lia
    ·have z':t.2.1=q.1:=z
     lia
   exact n2 pe (by rw[<- kk])
def allS (cs:List (Av ν)) (nm : ν) (g:Int->Int) (parts:List Tr3) (c:Int):List (Sx ν):=paidS cs [(0,c)]++borneS nm g parts (leftS cs [(0,c)])
theorem frm_one {c:Int} (h:0<c):Frm [((0:Int),c)]:=⟨fun p hp=>by rw[zAk.mp hp]; exact h,List.pairwise_singleton _ _⟩
theorem in_one {c n:Int}:inR [((0:Int),c)] n=true↔0<=n/\n<c:=by
 rw[inR_iff];constructor
 ·rintro ⟨p,hp,h⟩
  rw[zAk.mp hp] at h;exact h
 ·intro h
  exact⟨_,zAk.mpr rfl,h⟩
theorem all_in {cs:List (Av ν)} {nm : ν} {g f:Int->Int} {parts:List Tr3} {c n:Int} (c0:0<c) (ch:Ch f 0 none parts c):F3 (allS cs nm g parts c) n↔0<=n/\n<c:=by
 unfold allS;rw[Ww,paidS_in (frm_one c0),Mt ch,in_one];constructor
 ·rintro (h | h)
  ·exact h.1
  ·exact h.2
 ·intro h
  cases z:inR (leftS cs [(0,c)]) n with
  | false=>exact .inl ⟨h,rfl⟩
  | true=>exact .inr ⟨rfl,h⟩
theorem all_sep {cs:List (Av ν)} {nm : ν} {g f:Int->Int} {parts:List Tr3} {c:Int} (c0:0<c) (nd:(cs.map (·.1)).Nodup) (ch:Ch f 0 none parts c) (gi:∀ p∈parts,∀ q∈parts,g p.2.2=g q.2.2->p.2.2=q.2.2)
  (gn:∀ p∈parts,g p.2.2 = -1->∀ n,p.1<=n->n<p.2.1->inR (leftS cs [(0,c)]) n=false):Sep (allS cs nm g parts c):=by
 unfold allS;have fl:Frm (leftS cs [((0:Int),c)]):=leftS_frm (frm_one c0);refine Wd (Uz (frm_one c0) nd) (Vb fl ch gi) (fun n h1 h2=>?_) (fun s hs t ht tc e=>?_)
 ·rw[paidS_in (frm_one c0)] at h1
  rw[Mt ch] at h2;rw[h1.2] at h2;cases h2.1
 ·obtain⟨p,hp,ek,q,hq,e1,e2⟩:=borne_mem ht
  obtain⟨c1,c2,c3⟩:=cutW_bd hq;have k1:=(paidS_key hs).1;have k2:g p.2.2 = -1:=by
   have:=congrArg (fun z : ν × Int=>z.2) (e.trans ek);rw[<- k1];exact this.symm
  have i1:=gn p hp k2 q.1 c1 (by lia);have i2:inR (cutW (leftS cs [((0:Int),c)]) p.1 p.2.1) q.1=true:=inR_iff.mpr ⟨q,hq,Int.le_refl _,c3⟩;rw[cutW_in,i1] at i2;cases i2
theorem Sep.starts {S:List (Sx ν)} (h:Sep S):(S.map (·.1)).Nodup:=by
 rw[zBs,zBF];refine h.pw.imp_of_mem fun {s t} hs ht a e=>?_;have l1:=h.lt s hs;have l2:=h.lt t ht;rcases a.1 with z | z <;> lia
theorem Sep.perm {S T:List (Sx ν)} (h:Sep S) (p:T.Perm S):Sep T:=⟨fun s hs=>h.lt s (p.mem_iff.mp hs),(p.pairwise_iff fun h=>h.symm).mpr h.pw⟩
theorem inS_perm {S T:List (Sx ν)} (p:T.Perm S) {n:Int}:F3 T n↔F3 S n:=by
 unfold F3;constructor
 ·rintro ⟨s,hs,h⟩
  exact⟨s,p.mem_iff.mp hs,h⟩
 ·rintro ⟨s,hs,h⟩
  exact⟨s,p.mem_iff.mpr hs,h⟩
def FormS:Int->Option (ν × Int)->List (Sx ν)->Int->Prop
 | a,_,[],c=>a=c
 | a,lk,s::r,c=>s.1=a/\s.1<s.2.1/\lk≠some s.2.2/\FormS s.2.1 (some s.2.2) r c
theorem form_of:∀ {S:List (Sx ν)} {a c:Int} {lk:Option (ν × Int)},a<=c->Sep S->S.Pairwise (fun s t=>s.1<t.1)->(∀ n,F3 S n↔a<=n/\n<c)->(∀ s∈S,s.1=a->lk≠some s.2.2)->FormS a lk S c
 | [],a,c,lk,ac,_,_,rg,_=>by
  show a=c;by_cases z:a=c
  ·exact z
  ·obtain⟨s,hs,_⟩:=(rg a).mpr ⟨Int.le_refl _,by lia⟩
   cases hs
 | s::r,a,c,lk,ac,sp,so,rg,lk'=>by
  have l1:=sp.lt s zAj;have so':=zAO.mp so;have pw':=zAO.mp sp.pw;have s1:=(rg s.1).mp ⟨s,zAj,Int.le_refl _,l1⟩;have sa:s.1=a:=by
   obtain⟨t,ht,t1,t2⟩:=(rg a).mpr ⟨Int.le_refl _,by lia⟩;rcases zAn.mp ht with z | z
   ·rw[z] at t1; lia
   ·have:=so'.1 t z; lia
  have s2:=(rg (s.2.1-1)).mp ⟨s,zAj,by lia,by lia⟩;have beh:∀ t∈r,s.2.1<=t.1:=fun t ht=>by
   have l2:=sp.lt t (zAf _ ht);have:=so'.1 t ht;rcases (pw'.1 t ht).1 with z | z <;> lia
  refine⟨sa,l1,lk' s zAj sa,form_of (by lia) ⟨fun t ht=>sp.lt t (zAf _ ht),pw'.2⟩ so'.2 (fun n=>?_) (fun t ht e z=>?_)⟩
  ·constructor
   ·rintro ⟨t,ht,t1,t2⟩
    have:=beh t ht;exact⟨by lia,((rg n).mp ⟨t,zAf _ ht,t1,t2⟩).2⟩
   ·rintro ⟨n1,n2⟩
    obtain⟨t,ht,t1,t2⟩:=(rg n).mpr ⟨by lia,n2⟩;rcases zAn.mp ht with y | y
    ·rw[y] at t2; lia
    ·exact⟨t,y,t1,t2⟩
  ·exact (pw'.1 t ht).2 (.inl e.symm) (Option.some.inj z)
def EndsIn (B:List Int) (ps:List Rn):Prop:=∀ p∈ps,p.1∈B/\p.2∈B
theorem Z1 {B:List Int} {ps:List Rn} {lo hi:Int} (h:EndsIn B ps) (h1:lo∈B) (h2:hi∈B):EndsIn B (cutW ps lo hi):=fun q hq=>by
 unfold cutW at hq;obtain⟨p,hp,rfl⟩:=zAr.mp (zAL.mp hq).1;have:=h p hp;unfold cutM
 dsimp only
 refine⟨?_,?_⟩
 ·split
  ·exact h1
  ·exact this.1
 ·split
  ·exact h2
  ·exact this.2
theorem Vi:∀ {ps:List Rn} (n:Int),(∀ p∈ps,p.1<p.2)->∃ T:Int,∀ B,EndsIn B ps->EndsIn (T::B) (lowW ps n)
 | [],n,_=>⟨0,fun B _ p hp=>nomatch hp⟩
 | p::ps,n,lt=>by
  by_cases c:0<n/\p.1+n<p.2
  ·refine⟨p.1+n,fun B h q hq=>?_⟩
   rw[lowW_cons,if_pos c.1,if_pos c.2,Ux (fun q hq=>lt q (zAf _ hq)) (by lia),zAN] at hq;rw[zAk.mp hq];exact⟨zAf _ (h p zAj).1,zAj⟩
  ·obtain⟨T,hT⟩:=Vi (ps:=ps) (n-(p.2-p.1)) fun q hq=>lt q (zAf _ hq)
   refine⟨T,fun B h q hq=>?_⟩;rw[lowW_cons] at hq;rcases zAy.mp hq with z | z
   ·by_cases c0:0<n
    ·rw[if_pos c0,if_neg (fun y=>c ⟨c0,y⟩)] at z
     rw[zAk.mp z];have:=h p zAj;exact⟨zAf _ this.1,zAf _ this.2⟩
    ·rw[if_neg c0] at z
     cases z
   ·exact hT B (fun q hq=>h q (zAf _ hq)) q z
theorem Sf {B:List Int} {e:Int} (he:e∈B):∀ {qs:List Rn} {b:Int},b∈B->EndsIn B qs->EndsIn B (leftW e b qs)
 | [],b,hb,_,q,hq=>by
  rw[leftW_nil] at hq
  split at hq
  ·rw[zAk.mp hq]
   exact⟨hb,he⟩
  ·cases hq
 | x::qs,b,hb,h,q,hq=>by
  have hx:=h x zAj;rw[leftW_cons] at hq;rcases zAy.mp hq with z | z
  ·split at z
   ·rw[zAk.mp z]
    refine⟨hb,?_⟩;show minI x.1 e∈B;unfold minI
    split
    ·exact he
    ·exact hx.1
   ·cases z
  ·refine Sf he (qs:=qs) (b:=maxI b x.2) ?_ (fun q hq=>h q (zAf _ hq)) q z
   unfold maxI
   split
   ·exact hx.2
   ·exact hb
theorem AM {B:List Int} {ps qs:List Rn} (h:EndsIn B ps) (g:EndsIn B qs):EndsIn B (outW ps qs):=fun q hq=>by
 unfold outW at hq;obtain⟨l,hl,h2⟩:=zBI.mp hq;obtain⟨p,hp,rfl⟩:=zAr.mp hl;exact Sf (h p hp).2 (h p hp).1 g q h2
theorem EndsIn.mono {B B':List Int} {ps:List Rn} (h:EndsIn B ps) (s:∀ x∈B,x∈B'):EndsIn B' ps:=fun p hp=>⟨s _ (h p hp).1,s _ (h p hp).2⟩
theorem W6 (c:Av ν) {B:List Int} {un:List Rn} (f:Frm un) (h:EndsIn B un):∃ T,EndsIn (T::c.2.1.1::c.2.1.2::B) (payW c un):=by
 have h':EndsIn (c.2.1.1::c.2.1.2::B) (cutW un c.2.1.1 c.2.1.2):=Z1 (h.mono fun x hx=>by simp [hx]) (by simp) (by simp);unfold payW
 split
 ·exact⟨0,h'.mono fun x hx=>zAf _ hx⟩
 ·obtain⟨T,hT⟩:=Vi (ps:=cutW un c.2.1.1 c.2.1.2) (by assumption) (Ji _ _ f.pw).lt
  exact⟨T,hT _ h'⟩
theorem paid_ends:∀ {cs:List (Av ν)} {B:List Int} {un:List Rn},Frm un->EndsIn B un->∃ B',B'.length=B.length+3*cs.length/\(∀ x∈B,x∈B')/\EndsIn B' (leftS cs un)/\∀ s∈paidS cs un,s.1∈B'
 | [],B,un,f,h=>⟨B,rfl,fun _ z=>z,h,fun s z=>nomatch z⟩
 | c::cs,B,un,f,h=>by
  obtain⟨T,hT⟩:=W6 c f h;have h2:EndsIn (T::c.2.1.1::c.2.1.2::B) un:=h.mono fun x hx=>by simp [hx]
  obtain⟨B',b1,b2,b3,b4⟩:=paid_ends (cs:=cs) (outW_frm f (payW_frm (c:=c) f)) (AM h2 hT);refine⟨B',by rw[b1]; simp only [zAg]; lia,fun x hx=>b2 x (by simp [hx]),b3,fun s hs=>?_⟩;unfold paidS at hs;rcases zAy.mp hs with z | z
  ·obtain⟨p,hp,rfl⟩:=zAr.mp z
   exact b2 _ (hT p hp).1
  ·exact b4 s z
theorem few_of {l m:List Int} (nd:l.Nodup) (h:∀ x∈l,x∈m):l.length<=m.length:=by
 induction l generalizing m with
 | nil=>exact zAD _
 | cons x l ih=>
  rw[zAX] at nd;have hx:=h x zAj;have:=ih (m:=m.erase x) nd.2 fun y hy=>(zCf (fun z=>nd.1 (by rw[<- z]; exact hy))).mpr (h y (zAf _ hy));rw[zBH hx] at this;have:0<m.length:=zBR hx;rw[zAg]
  lia
theorem N3 {ps:List Rn} {lo hi:Int} {q:Rn} (h:q∈cutW ps lo hi):q.1=lo\/∃ p∈ps,q.1=p.1:=by
 unfold cutW at h;obtain⟨p,hp,rfl⟩:=zAr.mp (zAL.mp h).1;unfold cutM
 dsimp only
 split
 ·exact .inl rfl
 ·exact .inr ⟨p,hp,rfl⟩
theorem all_len {cs:List (Av ν)} {nm : ν} {g f:Int->Int} {parts:List Tr3} {c:Int} (c0:0<c) (sp:Sep (allS cs nm g parts c)):(allS cs nm g parts c).length<=2+3*cs.length+parts.length:=by
 obtain⟨B,b1,b2,b3,b4⟩:=paid_ends (cs:=cs) (B:=[0,c]) (frm_one c0) (fun p hp=>by rw[zAk.mp hp]; simp);have:=few_of (m:=parts.map (·.1)++B) sp.starts fun x hx=>?_
 ·rw[zAb,zAo,zAb,b1] at this
  simp only [zAg,zCo] at this
  lia
 ·obtain⟨s,hs,rfl⟩:=zAr.mp hx
  unfold allS at hs;rcases zAy.mp hs with z | z
  ·exact zAy.mpr (.inr (b4 s z))
  ·obtain⟨p,hp,_,q,hq,e1,_⟩:=borne_mem z
   rw[e1];rcases N3 hq with y | ⟨p',hp',y⟩
   ·rw[y]
    exact zAy.mpr (.inl (zAr.mpr ⟨p,hp,rfl⟩))
   ·rw[y]
    exact zAy.mpr (.inr (b3 p' hp').1)
end
end CRT
namespace CR
end CR
namespace CRT
open CR CRP
section
variable {ν : Type}
theorem paidS_app:∀ (as bs:List (Av ν)) (un:List Rn),paidS (as++bs) un=paidS as un++paidS bs (leftS as un)
 | [],_,_=>rfl
 | a::as,bs,un=>by
  show tag a.1 (-1) (payW a un)++paidS (as++bs) _=(tag a.1 (-1) (payW a un)++paidS as _)++_;rw[paidS_app as bs,zBE];rfl
end
end CRT
namespace CRL
open PySem L2
def top (i:Nat):Stmt:=PySem.Challenge.pw_coverroll_k47_whole_those_that_wait.main.body.getD i (.Pass ⟨0,0,0,0⟩)
abbrev Ma:Stmt:=top 8
abbrev Dz:Stmt:=top 20
abbrev Nn:Stmt:=top 21
abbrev Jo:Stmt:=top 22
abbrev Oe:Stmt:=top 23
abbrev Fd:Stmt:=top 26
abbrev Nk:Stmt:=top 27
abbrev Eu:Stmt:=Bv (top 28) 0
abbrev Ia:Stmt:=Bv (top 28) 1
abbrev Hm:Stmt:=Bv (top 28) 2
abbrev Hl:Stmt:=Bv (top 28) 3
abbrev Gq:Stmt:=Bv (top 29) 0
abbrev Lk:Stmt:=Bv (top 29) 1
abbrev Fe:Stmt:=Bv (top 30) 0
abbrev Ii:Stmt:=Bv (top 30) 1
abbrev Ff:Stmt:=Bv (top 31) 0
abbrev Ib:Stmt:=Bv (top 31) 1
abbrev Id:Stmt:=top 33
abbrev Jj:Stmt:=top 34
abbrev Hc:Stmt:=top 35
abbrev Oh:Stmt:=top 36
abbrev Ip:Stmt:=top 38
abbrev Lp:Stmt:=top 39
abbrev Jx:Stmt:=top 40
abbrev Gd:Stmt:=top 41
abbrev Jq:Stmt:=top 42
abbrev Fr:Stmt:=Bv (top 45) 0
abbrev Ev:Stmt:=Bv (top 47) 0
abbrev El:Stmt:=Bv (top 48) 0
abbrev Fq:Stmt:=Bv (top 48) 1
abbrev Eh:Stmt:=Bv (top 49) 0
abbrev Fn:Stmt:=Bv (top 49) 1
abbrev Ez:Stmt:=Bv (top 50) 0
abbrev Gs:Stmt:=Bv (top 50) 1
abbrev Fm:Stmt:=Bv (top 51) 0
abbrev Ie:Stmt:=Bv (top 51) 1
abbrev Gm:Stmt:=Bv (top 52) 0
abbrev Jk:Stmt:=Bv (top 52) 1
abbrev Gn:Stmt:=Bv (top 53) 0
abbrev Jv:Stmt:=Bv (top 53) 1
abbrev Fs:Stmt:=Bv (top 54) 0
abbrev Im:Stmt:=Bv (top 54) 1
abbrev Er:Stmt:=Bv (top 56) 0
abbrev Ho:Stmt:=Bv (top 56) 1
abbrev Io:Stmt:=Bv (top 56) 2
abbrev Hn:Stmt:=top 60
abbrev Le:Stmt:=top 61
abbrev Qq:Stmt:=top 62
abbrev Fv:Stmt:=top 63
abbrev Yo:Stmt:=top 64
abbrev Fw:Stmt:=Bv (top 65) 0
abbrev Gh:Stmt:=top 69
abbrev Fu:Stmt:=top 70
abbrev Jg:Stmt:=top 71
abbrev Ce:Stmt:=Bv (top 72) 0
abbrev Ik:Stmt:=Bv (top 72) 1
abbrev Hd:Stmt:=Bv (top 72) 2
abbrev Ge:Stmt:=Bv (top 72) 3
abbrev Hh:Stmt:=Bv (top 72) 4
abbrev Hy:Stmt:=Bv (top 72) 5
abbrev Jf:Stmt:=top 74
abbrev Ir:Stmt:=top 75
abbrev Hi:Stmt:=top 76
abbrev Il:Stmt:=top 77
abbrev Hj:Stmt:=top 78
abbrev Ij:Stmt:=top 79
abbrev Kd:Stmt:=top 80
abbrev Ke:Stmt:=top 81
abbrev Dx:Stmt:=top 82
abbrev Hq:Stmt:=top 83
abbrev Jw:Stmt:=top 84
abbrev He:Stmt:=top 85
abbrev Lq:Stmt:=top 86
abbrev Ju:Stmt:=top 87
abbrev Fc:Stmt:=top 88
abbrev Hk:Stmt:=top 89
abbrev Jh:Stmt:=top 90
abbrev Hx:Stmt:=top 91
abbrev Hf:Stmt:=top 92
abbrev Em:Stmt:=top 93
abbrev Ig:Stmt:=top 94
abbrev Qv:Stmt:=top 95
structure Txt (K:zAa) (mg:Str->Option Value):Prop where
 g_CAUSE:Ms mg "CAUSE" 4
 g_CENTS:Ms mg "CENTS" 5
 g_COVERED_ONE:JT mg "COVERED_ONE" "self"
 g_DAY:Ms mg "DAY" 1
 g_DAYS_OF_YEAR:Ms mg "DAYS_OF_YEAR" 365
 g_EVENT:Ms mg "EVENT" 2
 g_LETTERS:JT mg "LETTERS" "abcdefghijklmnopqrstuvwxyz"
 g_LONGEST_NAME:Ms mg "LONGEST_NAME" 8
 g_MOST_CENTS:Ms mg "MOST_CENTS" 999999999999
 g_MOST_CLAUSES:Ms mg "MOST_CLAUSES" 8
 g_MOST_COVERS:Ms mg "MOST_COVERS" 8
 g_MOST_PLACES:Ms mg "MOST_PLACES" 8
 g_MOST_TURNS:Ms mg "MOST_TURNS" 100
 g_NUMBER:Ms mg "NUMBER" 0
 g_THING:Ms mg "THING" 3
 n_bool:mg "bool" = none
 n_enumerate:mg "enumerate" = none
 n_int:mg "int" = none
 n_isinstance:mg "isinstance" = none
 n_len:mg "len" = none
 n_list:mg "list" = none
 n_max:mg "max" = none
 n_min:mg "min" = none
 n_range:mg "range" = none
 n_set:mg "set" = none
 n_sorted:mg "sorted" = none
 n_str:mg "str" = none
 n_sum:mg "sum" = none
 n_tuple:mg "tuple" = none
 n_zip:mg "zip" = none
 t_WAYS:MR K mg "WAYS" [.str "event",.str "thing",.str "year",.str "loss"]
structure Kl (K:zAa) (mg:Str->Option Value) (Ac Ag Ah Am Au Bb Ba At Ad Aw Ak Aj Bg Ai Az Aq:Addr):Prop where
 mg_Condition:mg "Condition" = some (.ref Ac)
 cl_Condition:Cls K Ac
 mg_CauseIs:mg "CauseIs" = some (.ref Ag)
 cl_CauseIs:Cls K Ag
 na_CauseIs_name:NoAttr K Ag "name"
 mg_ThingIs:mg "ThingIs" = some (.ref Ah)
 cl_ThingIs:Cls K Ah
 na_ThingIs_name:NoAttr K Ah "name"
 mg_DaysIn:mg "DaysIn" = some (.ref Am)
 cl_DaysIn:Cls K Am
 na_DaysIn_first:NoAttr K Am "first"
 na_DaysIn_last:NoAttr K Am "last"
 mg_Over:mg "Over" = some (.ref Au)
 cl_Over:Cls K Au
 na_Over_cents:NoAttr K Au "cents"
 mg_Not:mg "Not" = some (.ref Bb)
 cl_Not:Cls K Bb
 na_Not_part:NoAttr K Bb "part"
 mg_All:mg "All" = some (.ref Ba)
 cl_All:Cls K Ba
 na_All_several:NoAttr K Ba "several"
 mg_Some:mg "Some" = some (.ref At)
 cl_Some:Cls K At
 na_Some_several:NoAttr K At "several"
 mg_Clause:mg "Clause" = some (.ref Ad)
 cl_Clause:Cls K Ad
 na_Clause_by:NoAttr K Ad "by"
 ty_Clause:∀ {H:Hp} {a dx:Addr} {fs:List (Str×V)},H a=some (.ins Ad dx fs)->Gx K H (.ref a) (.ref Ad)
 mg_Own:mg "Own" = some (.ref Aw)
 cl_Own:Cls K Aw
 na_Own_cents:NoAttr K Aw "cents"
 na_Own_by:NoAttr K Aw "by"
 ty_Own:∀ {H:Hp} {a dx:Addr} {fs:List (Str×V)},H a=some (.ins Aw dx fs)->Gx K H (.ref a) (.ref Aw)
 mg_Layer:mg "Layer" = some (.ref Ak)
 cl_Layer:Cls K Ak
 na_Layer_first:NoAttr K Ak "first"
 na_Layer_upto:NoAttr K Ak "upto"
 na_Layer_by:NoAttr K Ak "by"
 ty_Layer:∀ {H:Hp} {a dx:Addr} {fs:List (Str×V)},H a=some (.ins Ak dx fs)->Gx K H (.ref a) (.ref Ak)
 mg_Limit:mg "Limit" = some (.ref Aj)
 cl_Limit:Cls K Aj
 na_Limit_most:NoAttr K Aj "most"
 na_Limit_by:NoAttr K Aj "by"
 ty_Limit:∀ {H:Hp} {a dx:Addr} {fs:List (Str×V)},H a=some (.ins Aj dx fs)->Gx K H (.ref a) (.ref Aj)
 mg_Deal:mg "Deal" = some (.ref Bg)
 cl_Deal:Cls K Bg
 na_Deal_wheel:NoAttr K Bg "wheel"
 na_Deal_weights:NoAttr K Bg "weights"
 mg_Cover:mg "Cover" = some (.ref Ai)
 cl_Cover:Cls K Ai
 na_Cover_name:NoAttr K Ai "name"
 na_Cover_condition:NoAttr K Ai "condition"
 na_Cover_clauses:NoAttr K Ai "clauses"
 na_Cover_houses:NoAttr K Ai "houses"
 na_Cover_deal:NoAttr K Ai "deal"
 na_Cover_waits:NoAttr K Ai "waits"
 mg_Book:mg "Book" = some (.ref Az)
 cl_Book:Cls K Az
 na_Book_covers:NoAttr K Az "covers"
 na_Book_asking:NoAttr K Az "asking"
 mg_Counts:mg "Counts" = some (.ref Aq)
 cl_Counts:Cls K Aq
 na_Counts_kept:NoAttr K Aq "kept"
 kt_Clause_Limit:zAV K (.ref Ad) (.ref Aj)=some false
 kt_Own_Limit:zAV K (.ref Aw) (.ref Aj)=some false
 kt_Layer_Limit:zAV K (.ref Ak) (.ref Aj)=some false
 kt_Limit_Limit:zAV K (.ref Aj) (.ref Aj)=some true
 nd:([Ac,Ag,Ah,Am,Au,Bb,Ba,At,Ad,Aw,Ak,Aj,Bg,Ai,Az,Aq]:List Addr).Nodup
theorem dT {c A B:Prop} [Decidable c] (h:c) (q:A):if decide c=true then A else B:=by rw[decide_eq_true h,if_pos rfl]; exact q
theorem dF {c A B:Prop} [Decidable c] (h:¬ c) (q:B):if decide c=true then A else B:=by rw[decide_eq_false h,if_neg zAm]; exact q
theorem nT {c A B:Prop} [Decidable c] (h:¬ c) (q:A):if (!decide c)=true then A else B:=by rw[decide_eq_false h]; exact q
theorem nF {c A B:Prop} [Decidable c] (h:c) (q:B):if (!decide c)=true then A else B:=by rw[decide_eq_true h]; exact q
theorem bT {c:Bool} {A B:Prop} (h:c=true) (q:A):if c=true then A else B:=by rw[if_pos h]; exact q
theorem bF {c:Bool} {A B:Prop} (h:c=false) (q:B):if c=true then A else B:=by rw[if_neg (by rw[h]; exact zAm)]; exact q
def BE:V->Bool
 | .int _=>true
 | _=>false
theorem Vl {K:zAa} {H:Hp} {x:V} {T:String} (h:Gx K H x (.type T)):∃ b1 b2,zAV K (.type T) (.type "int")=some b1/\zAV K (.type T) (.type "bool")=some b2/\BE x=(b1 && !b2):=by
 cases h with
 | non=>exact⟨false,false,by kernel_rfl,by kernel_rfl,rfl⟩
 | bl b=>exact⟨true,true,by kernel_rfl,by kernel_rfl,rfl⟩
 | int i=>exact⟨true,false,by kernel_rfl,by kernel_rfl,rfl⟩
 | str i=>exact⟨false,false,by kernel_rfl,by kernel_rfl,rfl⟩
 | flt i=>exact⟨false,false,by kernel_rfl,by kernel_rfl,rfl⟩
 | lst e=>exact⟨false,false,by kernel_rfl,by kernel_rfl,rfl⟩
 | frz e=>exact⟨false,false,by kernel_rfl,by kernel_rfl,rfl⟩
 | tup e=>exact⟨false,false,by kernel_rfl,by kernel_rfl,rfl⟩
 | dK e=>exact⟨false,false,by kernel_rfl,by kernel_rfl,rfl⟩
 | dT e=>exact⟨false,false,by kernel_rfl,by kernel_rfl,rfl⟩
theorem AS {K:zAa}:zAV K (.type "list") (.type "list")=some true:=by kernel_rfl
def Iw (K:zAa):Sp:=fun vs H Q _=>∃ x T,vs=[x]/\Gx K H x (.type T)/\Q (.bl (BE x)) H
theorem IY {K:zAa}:zAV K (.type "tuple") (.type "tuple")=some true:=by kernel_rfl
def Nu (K:zAa):Sp:=fun vs H Q _=>∃ a ns,∃ k:Int,vs=[.ref a,.int k]/\SqL K H a (List.map V.int ns)/\0<=k/\ns.length<=63/\Q (.int (ns.getD k.toNat 0)) H
section
variable {P:Program} {w:World} {K:zAa} {mg:Str->Option Value} {base:Heap}
theorem Wg:Bd ["_law_script", "_law_k"] ["_law_script", "_law_k"] (As Jf):=⟨rfl,rfl,rfl,by decide +kernel,rfl,by decide +kernel,by decide +kernel⟩
theorem Yp {f:Addr} {fd:zCG} (F:Fun K "_law_cell" "_law_cell" Jf f fd) (T:Txt K mg):FnOk P w K mg base Da 1 f fd ["_law_script", "_law_k"] (Nu K):=by
 have sc:=Wg;refine F.ok sc (fun vs H Q E h=>?_) (fun cdv A outer s H vs Q E hr h=>?_)
 ·obtain⟨_,_,_,rfl,_⟩:=h
  rfl
 obtain⟨a,ns,k,rfl,ha,h0,h63,q⟩:=h;refine⟨_,(Ae (Bw (Bj Fk (pv 1) (Bn Cc rfl T.n_len (show zCF _=some (.builtin "len") from rfl) (Aa (pv 0) Af)) (Bm _))
    (Ao (Be (Bh Bp (pv 0) (pv 1) (fun _ _=>rfl))))
    Bl)
   (Ao (Be Al))),?_⟩
 have hl:(List.map V.int ns).length=ns.length:=zAb _;refine (vE rfl (vE rfl ⟨a,_,rfl,.inl ha,vF rfl rfl (vE rfl ?_)⟩));rw[hl];refine Ss (fun c=>?_) (fun c=>?_)
 ·have c':k<(ns.length:Int):=of_decide_eq_true c
  exact (vE rfl (vE rfl ⟨a,_,_,_,rfl,rfl,ha,Q1 h0 c',q⟩))
 ·have c':¬ k<(ns.length:Int):=of_decide_eq_false (zBf.mpr c)
  have e:ns.getD k.toNat 0=0:=by
   rw[zAt,zBZ (by lia)];rfl
  rw[e] at q;exact q
theorem C1:Bd ["thing"] ["thing"] (As Ma):=⟨rfl,rfl,rfl,by decide +kernel,rfl,by decide +kernel,by decide +kernel⟩
theorem E3 {f:Addr} {fd:zCG} (F:Fun K "is_whole" "is_whole" Ma f fd) (T:Txt K mg):FnOk P w K mg base Da 1 f fd ["thing"] (Iw K):=by
 have sc:=C1;refine F.ok sc (fun vs H Q E h=>?_) (fun cdv A outer s H vs Q E hr h=>?_)
 ·obtain⟨x,T,rfl,_⟩:=h
  rfl
 obtain⟨x,ty,rfl,hty,q⟩:=h;refine⟨_,(Ao (Be (Wz (Bn Cy rfl T.n_isinstance (show zCF _=some (.builtin "isinstance") from rfl) (Aa (pv 0) (Aa (Kx "int" rfl T.n_int rfl) Af))) (Wv (G8 (Bn Cy rfl T.n_isinstance (show zCF _=some (.builtin "isinstance") from rfl) (Aa (pv 0) (Aa (Kx "bool" rfl T.n_bool rfl) Af)))))))),?_⟩;obtain⟨b1,b2,k1,k2,e⟩:=Vl hty;rw[e] at q;refine (vE rfl ⟨_,_,_,_,_,rfl,Kw,hty,k1,_,rfl,?_⟩);cases b1 with
 | false=>exact q
 | true=>exact⟨_,rfl,_,_,_,_,_,rfl,Kw,hty,k2,_,rfl,q⟩
theorem Us:Bd ["_law_found"] ["_law_found"] (As Ir):=⟨rfl,rfl,rfl,by decide +kernel,rfl,by decide +kernel,by decide +kernel⟩
theorem To {f:Addr} {fd:zCG} (F:Fun K "_law_whole" "_law_whole" Ir f fd) (T:Txt K mg):FnOk P w K mg base Da 1 f fd ["_law_found"] (Iw K):=by
 have sc:=Us;refine F.ok sc (fun vs H Q E h=>?_) (fun cdv A outer s H vs Q E hr h=>?_)
 ·obtain⟨x,T,rfl,_⟩:=h
  rfl
 obtain⟨x,ty,rfl,hty,q⟩:=h;refine⟨_,(Ao (Be (Wz (Bn Cy rfl T.n_isinstance (show zCF _=some (.builtin "isinstance") from rfl) (Aa (pv 0) (Aa (Kx "int" rfl T.n_int rfl) Af))) (Wv (G8 (Bn Cy rfl T.n_isinstance (show zCF _=some (.builtin "isinstance") from rfl) (Aa (pv 0) (Aa (Kx "bool" rfl T.n_bool rfl) Af)))))))),?_⟩;obtain⟨b1,b2,k1,k2,e⟩:=Vl hty;rw[e] at q;refine (vE rfl ⟨_,_,_,_,_,rfl,Kw,hty,k1,_,rfl,?_⟩);cases b1 with
 | false=>exact q
 | true=>exact⟨_,rfl,_,_,_,_,_,rfl,Kw,hty,k2,_,rfl,q⟩
def OZ (m:Int):V->Bool
 | .int i=>decide (0<=i/\i<=m)
 | _=>false
def BU (K:zAa) (m:Int):Sp:=fun vs H Q _=>∃ x T,vs=[x]/\Gx K H x (.type T)/\Q (.bl (OZ m x)) H
theorem Wo:Bd ["thing"] ["thing"] (As Jo):=⟨rfl,rfl,rfl,by decide +kernel,rfl,by decide +kernel,by decide +kernel⟩
theorem Xi {f:Addr} {fd:zCG} (F:Fun K "is_amount" "is_amount" Jo f fd) (T:Txt K mg) (Cis_whole:Cq P w K mg base 1 "is_whole" ["thing"] (Iw K)):FnOk P w K mg base Da 2 f fd ["thing"] (BU K 999999999999):=by
 have sc:=Wo;refine F.ok sc (fun vs H Q E h=>?_) (fun cdv A outer s H vs Q E hr h=>?_)
 ·obtain⟨_,_,rfl,_⟩:=h
  rfl
 obtain⟨x,ty,rfl,hty,q⟩:=h;refine⟨_,(Ao (Be (Wz (Ax Cis_whole (hr.mono (by decide)) rfl (Aa (pv 0) Af)) (Wv (Sr Oz Oz Al (pv 0) (Dm T.g_MOST_CENTS rfl)))))),?_⟩;refine (vE rfl ⟨_,_,rfl,hty,_,rfl,?_⟩);cases x with
 | int i=>
  refine Kn (vE rfl (vF rfl rfl (vE rfl ?_)));by_cases c1:(0:Int)<=i
  ·refine dT c1 (vF rfl rfl ?_)
   show Q (.bl (decide (i<=999999999999))) H;have e:decide (0<=i/\i<=999999999999)=decide (i<=999999999999):=by
    by_cases c2:i<=999999999999
    ·rw[decide_eq_true c2,decide_eq_true ⟨c1,c2⟩]
    ·rw[decide_eq_false c2,decide_eq_false (fun y=>c2 y.2)]
   rw[<- e];exact q
  ·refine dF c1 ?_
   rw[show OZ 999999999999 (.int i)=false from decide_eq_false (fun y=>c1 y.1)] at q;exact q
 | _=>exact Dq q
end
def Fo (c:Nat):Prop:=97<=c/\c<=122
instance:DecidablePred Fo:=fun c=>by unfold Fo; exact inferInstance
def Jz (l:List Nat):Prop:=∀ c∈l,Fo c
instance (l:List Nat):Decidable (Jz l):=by unfold Jz; exact inferInstance
def Tg (l:List Nat):Prop:=(1<=l.length/\l.length<=8)/\Jz l
instance (l:List Nat):Decidable (Tg l):=by unfold Tg; exact inferInstance
theorem let_in {c:Nat}:(c∈(Str.ofString "abcdefghijklmnopqrstuvwxyz").cps.toList)↔Fo c:=by
 have e:(Str.ofString "abcdefghijklmnopqrstuvwxyz").cps.toList=(zAM 26).map (97 + ·):=by decide +kernel
 rw[e,zAr];unfold Fo;constructor
 ·rintro ⟨k,hk,rfl⟩
  have:=zBt.mp hk
  lia
 ·intro h
  exact⟨c-97,zBt.mpr (by lia),by lia⟩
def KH:V->Bool
 | .str _=>true
 | _=>false
def Pb:V->Bool
 | .str z=>decide (Tg z.cps.toList)
 | _=>false
def QD (x:V):Prop:=∀ z,x = .str z->z.length<=900
theorem FJ {K:zAa} {H:Hp} {x:V} {T:String} (h:Gx K H x (.type T)):zAV K (.type T) (.type "str")=some (KH x):=by
 cases h with
 | non=>kernel_rfl
 | bl b=>kernel_rfl
 | int i=>kernel_rfl
 | str i=>kernel_rfl
 | flt i=>kernel_rfl
 | lst e=>kernel_rfl
 | frz e=>kernel_rfl
 | tup e=>kernel_rfl
 | dK e=>kernel_rfl
 | dT e=>kernel_rfl
def CA:Sp:=fun vs H Q _=>∃ l,vs=[.str (tx l)]/\Q (.bl (decide (Jz l))) H
def Ws (K:zAa):Sp:=fun vs H Q _=>∃ x T,vs=[x]/\Gx K H x (.type T)/\QD x/\Q (.bl (Pb x)) H
section
seal L2.PS L2.PSs L2.PE
variable {P:Program} {w:World} {K:zAa} {mg:Str->Option Value} {base:Heap}
theorem Jp:Bd ["text", "sign"] ["text"] (As Dz):=⟨rfl,rfl,rfl,by decide +kernel,rfl,by decide +kernel,by decide +kernel⟩
theorem Js {f:Addr} {fd:zCG} (F:Fun K "has_letters_alone" "has_letters_alone" Dz f fd) (T:Txt K mg):FnOk P w K mg base Da 1 f fd ["text"] CA:=by
 have sc:=Jp;refine F.ok sc (fun vs H Q E h=>?_) (fun cdv A outer s H vs Q E hr h=>?_)
 ·obtain⟨_,rfl,_⟩:=h
  rfl
 obtain⟨l,rfl,q⟩:=h;refine⟨_,(Ae (Ck PassesOwn.never rfl (JE (pv 0)) (Ay (i:=1) sc.nd rfl (Or.inl rfl))
    (Ao (Bw (Bj AC (pv 1) (P6 T.g_LETTERS rfl) rfl)
    (Ao (Be Eg))
    Bl)))
   (Ao (Be Eg))),?_⟩
 refine (vE rfl (vE rfl (GS (l:=l) (fun i σ H2=>((∃ o,σ=[some (.str (tx l)),o])/\H2=H)/\∀ j c,j<i->l[j]?=some c->Fo c) ⟨⟨⟨none,rfl⟩,rfl⟩,fun _ _ z=>absurd z (zBq _)⟩ ?_ ?_)))
 ·rintro i c σ H2 hi ⟨⟨⟨o,rfl⟩,rfl⟩,good⟩
  refine (vE rfl ⟨c,_,rfl,rfl,vE rfl ?_⟩);by_cases hc:Fo c
  ·refine nF (let_in.mpr hc) ⟨⟨⟨_,rfl⟩,rfl⟩,fun j d hj hd=>?_⟩
   by_cases e:j=i
   ·subst e
    rw[hi] at hd;cases hd;exact hc
   ·exact good j d (by lia) hd
  ·refine nT (fun z=>hc (let_in.mp z)) ?_
   have n:¬ Jz l:=fun z=>hc (z c (zAE hi));rw[decide_eq_false n] at q;exact q
 ·rintro σ H2 ⟨⟨⟨o,rfl⟩,rfl⟩,good⟩
  have all:Jz l:=fun c hc=>by
   obtain⟨j,hj,e⟩:=zAY hc;exact good j c hj (by rw[zAe hj,e])
  rw[decide_eq_true all] at q;exact q
theorem L4:Bd ["thing"] ["thing"] (As Nn):=⟨rfl,rfl,rfl,by decide +kernel,rfl,by decide +kernel,by decide +kernel⟩
theorem L7 {f:Addr} {fd:zCG} (F:Fun K "is_name" "is_name" Nn f fd) (T:Txt K mg) (Chas_letters_alone:Cq P w K mg base 1 "has_letters_alone" ["text"] CA):FnOk P w K mg base Da 2 f fd ["thing"] (Ws K):=by
 have sc:=L4;refine F.ok sc (fun vs H Q E h=>?_) (fun cdv A outer s H vs Q E hr h=>?_)
 ·obtain⟨_,_,rfl,_⟩:=h
  rfl
 obtain⟨x,ty,rfl,hty,ok,q⟩:=h;refine⟨_,(Ae (Bw (Dc (Cn (Bn Cy rfl T.n_isinstance (show zCF _=some (.builtin "isinstance") from rfl) (Aa (pv 0) (Aa (Kx "str" rfl T.n_str rfl) Af)))))
    (Ao (Be Eg))
    Bl)
   (Ao (Be (Wz (Sr Oz Oz Al (Bn Xm rfl T.n_len (show zCF _=some (.builtin "len") from rfl) (Aa (pv 0) Af)) (Dm T.g_LONGEST_NAME rfl)) (Wv (Ax Chas_letters_alone (hr.mono (by decide)) rfl (Aa (pv 0) Af))))))),?_⟩
 refine (vE rfl ⟨_,_,_,_,_,rfl,Kw,hty,FJ hty,_,rfl,?_⟩);cases x with
 | str z=>
  have hz:=ok z rfl;have ez:tx z.cps.toList=z:=CP z;refine Dq (vE rfl (vE rfl ⟨Cf (by lia),?_⟩));have lz:(z.length:Int)=(z.cps.toList.length:Int):=by rw[<- Fx,ez]
  refine (vF rfl rfl (vE rfl ?_));by_cases c1:1<=(z.length:Int)
  ·refine dT c1 (vF rfl rfl (vE rfl ?_))
   by_cases c2:(z.length:Int)<=8
   ·refine dT c2 (vE rfl ⟨z.cps.toList,by rw[ez]; rfl,?_⟩)
    have e:decide (Tg z.cps.toList)=decide (Jz z.cps.toList):=by
     by_cases a:Jz z.cps.toList
     ·rw[decide_eq_true a,decide_eq_true (show Tg _ from ⟨⟨by lia,by lia⟩,a⟩)]
     ·rw[decide_eq_false a,decide_eq_false (fun y=>a y.2)]
    rw[<- e];exact q
   ·refine dF c2 ?_
    rw[show Pb (.str z)=false from decide_eq_false (fun y=>c2 (by have:=y.1.2; lia))] at q;exact q
  ·refine dF c1 (vE rfl (Dq ?_))
   rw[show Pb (.str z)=false from decide_eq_false (fun y=>c1 (by have:=y.1.1; lia))] at q;exact q
 | _=>exact Kn q
end
theorem Dw {C:Addr} {H H2:Hp} {x dx:Addr} (nx:H x=none) (ndx:H dx=none) (kp:∀ b o,(upd (upd H dx (.own x)) x (.ins C dx [])) b=some o->b≠x->H2 b=some o):Same H H2:=fun b o e=>
 kp b o (by rw[Ar (Ap e nx),Ar (Ap e ndx)]; exact e) (Ap e nx)
def KB (p:Addr) (H H':Hp):Prop:=∀ b o,H b=some o->b≠p->H' b=some o
theorem KB.upd {p:Addr} {H H':Hp} (k:KB p H H') (o:HO):KB p H (upd H' p o):=fun b u e n=>by rw[Ar n]; exact k b u e n
theorem KB.same {p:Addr} {H H' H'':Hp} (k:KB p H H') (s:Same H' H''):KB p H H'':=fun b u e n=>s _ _ (k b u e n)
theorem KB.free {p:Addr} {H H':Hp} {b:Addr} (k:KB p H H') (n:b≠p) (h:H' b=none):H b=none:=by
 cases z:H b with
 | none=>rfl
 | some o=>
  have:=k _ _ z n;rw[h] at this;cases this
theorem Dr {i:Nat} {v:V} {nx:St->Hp->Prop} {σ:St} {H:Hp} (σ':St) (e:σ.set i (some v)=σ') (h:nx σ' H):Fb i v σ H nx:=by
 unfold Fb;rw[e];exact h
theorem Vy (l:List Str):(l.map V.str).all Eo=true:=by
 rw[List.all_map];exact zCB.mpr fun _ _=>rfl
theorem Bu {α:Type} {l:List α} {i:Nat} {x:α} (h:l[i]?=some x):l.take (i+1)=l.take i++[x]:=by
 rw[List.take_add_one,h];rfl
theorem f1 {f g:Str} {v:V} {fs:List (Str×V)} (h:¬ g=f):(Bs f v fs).lookup g=fs.lookup g:=by rw[Bi,if_neg h]
theorem f0 {f:Str} {v:V} {fs:List (Str×V)}:(Bs f v fs).lookup f=some v:=by rw[Bi,if_pos rfl]
theorem Fl (f:Str) (v:V):∀ fs:List (Str×V),(Bs f v fs).length<=fs.length+1
 | []=>zAl _
 | (g,u)::fs=>by
  unfold Bs
  split
  ·simp
  ·have:=Fl f v fs
   simp only [zAg]
   lia
theorem Y8 {H:Hp} {x dx b:Addr} {o o':HO} (h:upd (upd H dx o) x o' b=none):H b=none:=by
 by_cases e:b=x
 ·subst e
  rw[Ab] at h;cases h
 ·rw[Ar e] at h
  by_cases e':b=dx
  ·subst e'
   rw[Ab] at h;cases h
  ·rw[Ar e'] at h
   exact h
def noM5 (fs:List (Str×V)):Prop:=fs.lookup ("asks" : Str)=none/\fs.lookup ("spans" : Str)=none/\fs.lookup ("window" : Str)=none/\fs.lookup ("parts" : Str)=none/\fs.lookup ("rest" : Str)=none
theorem noM5.put {f:Str} {v:V} {fs:List (Str×V)} (h:noM5 fs) (n1:¬ ("asks" : Str)=f) (n2:¬ ("spans" : Str)=f) (n3:¬ ("window" : Str)=f) (n4:¬ ("parts" : Str)=f) (n5:¬ ("rest" : Str)=f):noM5 (Bs f v fs):=
 ⟨by rw[f1 n1]; exact h.1,by rw[f1 n2]; exact h.2.1,by rw[f1 n3]; exact h.2.2.1,by rw[f1 n4]; exact h.2.2.2.1,by rw[f1 n5]; exact h.2.2.2.2⟩
def Yb:List V:=[.int 1]
def BS:Sp:=fun vs H Q _=>∃ a,vs=[.ref a]/\H a=some (.lst Yb)/\Q (.bl true) H
def M1:Sp:=fun vs H Q _=>vs=[.int 1,.int 0,.int 1,.int 0]/\Q (.bl true) H
def I0:Sp:=fun vs H Q _=>vs=[.int 1,.int 0,.int 1]/\Q (.int 1) H
def CU:Sp:=fun vs H Q _=>∃ a b,vs=[.ref a,.ref b,.int 0]/\H a=some (.lst Yb)/\H b=some (.lst [.int 0])/\∀ H',Same H H'->Q (.int 0) H'
def DW:Sp:=fun vs H Q _=>∃ a,vs=[.ref a]/\H a=some (.lst Yb)/\∀ r H',Same H H'->Q (.ref r) H'
def DS (C:Addr):Sp:=fun vs H Q _=>∃ p dx a,vs=[.ref p,.ref a]/\H p=some (.ins C dx [])/\H a=some (.lst Yb)/\∀ H',KB p H H'->Q .non H'
def ED:Sp:=fun vs H Q _=>∃ a,vs=[.ref a]/\H a=some (.lst [.str "h"])/\∀ H',Same H H'->Q .non H'
theorem IL:Pb (.str "h")=true:=by decide +kernel
theorem LM:(Str.ofString "h").length<=8:=by decide +kernel
section
seal L2.PS L2.PSs L2.PE L2.PA
variable {P:Program} {w:World} {K:zAa} {mg:Str->Option Value} {base:Heap} {Ac Ag Ah Am Au Bb Ba At Ad Aw Ak Aj Bg Ai Az Aq:Addr}
theorem Ro:Bd ["thing", "weight"] ["thing"] (As Hn):=⟨rfl,rfl,rfl,by decide +kernel,rfl,by decide +kernel,by decide +kernel⟩
theorem Rp {f:Addr} {fd:zCG} (F:Fun K "are_weights" "are_weights" Hn f fd) (T:Txt K mg) (Cis_whole:Cq P w K mg base 1 "is_whole" ["thing"] (Iw K)):FnOk P w K mg base Da 2 f fd ["thing"] BS:=by
 have sc:=Ro;refine F.ok sc (fun vs H Q E h=>?_) (fun cdv A outer s H vs Q E hr h=>?_)
 ·obtain⟨_,rfl,_⟩:=h
  rfl
 obtain⟨a,rfl,ha,q⟩:=h;refine⟨_,(Ae (Bw (Dc (Cn (Bn Cy rfl T.n_isinstance (show zCF _=some (.builtin "isinstance") from rfl) (Aa (pv 0) (Aa (Kx "list" rfl T.n_list rfl) Af)))))
    (Ao (Be Eg))
    Bl)
   (Ae (Bw (PW.pt (Gv (Bj Fk (Bn Cc rfl T.n_len (show zCF _=some (.builtin "len") from rfl) (Aa (pv 0) Af)) Al (Bm _)) (Ft (Bj Vt (Bn Cc rfl T.n_len (show zCF _=some (.builtin "len") from rfl) (Aa (pv 0) Af)) (Dm T.g_MOST_PLACES rfl) (Bm _)))))
    (Ao (Be Eg))
    Bl)
   (Ae (Ck PassesOwn.never rfl (Bt (pv 0)) (Ay (i:=1) sc.nd rfl (Or.inl rfl))
    (Ao (Bw (PW.pt (Gv (Dc (Cn (Ax Cis_whole (hr.mono (by decide)) rfl (Aa (pv 1) Af)))) (Ft (Bj Fk (pv 1) Al (Bm _)))))
    (Ao (Be Eg))
    Bl)))
   (Ao (Be (Ga Oz (Bn (Rv rfl) rfl T.n_sum (show zCF _=some (.builtin "sum") from rfl) (Aa (pv 0) Af)) (Dm T.g_MOST_TURNS rfl) (Bm _))))))),?_⟩
 refine (vE rfl ⟨_,_,_,_,_,rfl,Kw,.lst ha,AS,_,rfl,Dq ?_⟩);refine (vE rfl ⟨a,_,rfl,.inl (SqL.of ha),vF rfl rfl (vE rfl (dF (by decide) (vE rfl ⟨a,_,rfl,.inl (SqL.of ha),vF rfl rfl (vE rfl (dF (by decide) ?_))⟩)))⟩);refine (vE rfl ⟨a,rfl,⟨_,SqL.of ha⟩,?_⟩);refine Db (K:=K) (a:=a) (xs:=Yb) (fun i σ H2=>(∃ o,σ=[some (.ref a),o])/\H2=H) ⟨⟨none,rfl⟩,rfl⟩ (fun i σ H2 _ hh=>by rw[hh.2]; exact SqL.of ha) ?_ ?_
 ·rintro i x σ H2 hi ⟨⟨o,rfl⟩,rfl⟩
  obtain rfl:x = .int 1:=by
   match i,hi with
   | 0,h=>cases h; rfl
   | i+1,h=>simp [Yb] at h
  refine Dr [some (.ref a),some (.int 1)] rfl ?_;exact (vE rfl ⟨_,_,rfl,.int 1,_,rfl,Dq (vE rfl (vF rfl rfl (vE rfl (dF (by decide) ⟨⟨_,rfl⟩,rfl⟩))))⟩)
 ·rintro σ H2 ⟨⟨o,rfl⟩,rfl⟩
  exact (vE rfl ⟨a,[1],rfl,SqL.of ha,vF rfl rfl q⟩)
theorem D0:Bd ["weight", "dealt", "total", "turn"] ["weight", "dealt", "total", "turn"] (As Le):=⟨rfl,rfl,rfl,by decide +kernel,rfl,by decide +kernel,by decide +kernel⟩
theorem Zz {f:Addr} {fd:zCG} (F:Fun K "may_have" "may_have" Le f fd) (T:Txt K mg):FnOk P w K mg base Da 1 f fd ["weight", "dealt", "total", "turn"] M1:=by
 have sc:=D0;refine F.ok sc (fun vs H Q E h=>?_) (fun cdv A outer s H vs Q E hr h=>?_)
 ·obtain⟨rfl,_⟩:=h
  rfl
 obtain⟨rfl,q⟩:=h;refine⟨_,(Ao (Be (Ga Fk (Bc Dy (pv 1) (pv 2)) (Bc Dy (pv 0) (Bc Cm (pv 3) Al)) (Bm _)))),?_⟩;exact (vE rfl (vE rfl (vF rfl rfl ⟨.inl ⟨by decide,by decide⟩,vE rfl (vE rfl (vF rfl rfl (vF rfl rfl ⟨.inl ⟨by decide,by decide⟩,vF rfl rfl q⟩)))⟩)))
theorem AO:Bd ["weight", "dealt", "total"] ["weight", "dealt", "total"] (As Qq):=⟨rfl,rfl,rfl,by decide +kernel,rfl,by decide +kernel,by decide +kernel⟩
theorem AN {f:Addr} {fd:zCG} (F:Fun K "due_by" "due_by" Qq f fd) (T:Txt K mg):FnOk P w K mg base Da 1 f fd ["weight", "dealt", "total"] I0:=by
 have sc:=AO;refine F.ok sc (fun vs H Q E h=>?_) (fun cdv A outer s H vs Q E hr h=>?_)
 ·obtain⟨rfl,_⟩:=h
  rfl
 obtain⟨rfl,q⟩:=h;refine⟨_,(Ao (Be (Bc By (Bc Lu (Bc Cm (Bc Dy (Bc Cm (pv 1) Al) (pv 2)) (pv 0)) Al) (pv 0)))),?_⟩;exact (vE rfl (vF rfl rfl (vE rfl (vF rfl rfl ⟨.inl ⟨by decide,by decide⟩,vE rfl (vF rfl rfl (vF rfl rfl (vE rfl (vF rfl rfl ⟨⟨by decide,by decide⟩,q⟩))))⟩))))
theorem Ni:Bd ["weights", "dealt", "turn", "total", "places", "best", "place"] ["weights", "dealt", "turn"] (As Fv):=⟨rfl,rfl,rfl,by decide +kernel,rfl,by decide +kernel,by decide +kernel⟩
theorem Nj {f:Addr} {fd:zCG} (F:Fun K "place_of_turn" "place_of_turn" Fv f fd) (T:Txt K mg) (Cmay_have:Cq P w K mg base 1 "may_have" ["weight", "dealt", "total", "turn"] M1) (Cdue_by:Cq P w K mg base 1 "due_by" ["weight", "dealt", "total"] I0):FnOk P w K mg base Da 2 f fd ["weights", "dealt", "turn"] CU:=by
 have sc:=Ni;refine F.ok sc (fun vs H Q E h=>?_) (fun cdv A outer s H vs Q E hr h=>?_)
 ·obtain⟨_,_,rfl,_⟩:=h
  rfl
 obtain⟨a,b,rfl,ha,hb,q⟩:=h;refine⟨_,(Ae (Bf (i:=3) sc.nd rfl (Or.inr rfl) (Bn (Rv rfl) rfl T.n_sum (show zCF _=some (.builtin "sum") from rfl) (Aa (pv 0) Af)))
   (Ae (Fa (NC:=["k", "total", "turn", "weights", "dealt"]) (own:=["k"]) (cs:=["total", "turn", "weights", "dealt"]) (ix:=[3,2,0,1]) (j:=4) sc.nd rfl rfl rfl (CompScope.of rfl) rfl ⟨⟨rfl,.inl rfl,rfl⟩,⟨⟨rfl,.inl rfl,rfl⟩,⟨⟨rfl,.inl rfl,rfl⟩,⟨⟨rfl,.inl rfl,rfl⟩,trivial⟩⟩⟩⟩ (Cz rfl T.n_range (Aa (Bn Cc rfl T.n_len (show zCF _=some (.builtin "len") from rfl) (Aa (pv 0) Af)) Af)) (fun _ _ _=>(Ay (i:=0) (show (["k", "total", "turn", "weights", "dealt"]:List Str).Nodup from by decide +kernel) rfl (Or.inl rfl))) (fun _ _ _=>(Fh (Cn (Ax Cmay_have (hr.mono (by decide)) rfl (Aa (Bh (Gu (K:=K) rfl) (pv 3) (pv 0) (fun _ _=>rfl)) (Aa (Bh (Gu (K:=K) rfl) (pv 4) (pv 0) (fun _ _=>rfl)) (Aa (pv 1) (Aa (pv 2) Af)))))))) (fun _ _ _=>(pv 0)))
   (Ae (Bf (i:=5) sc.nd rfl (Or.inl rfl) (Bh Bp (pv 4) Al (fun _ _=>rfl)))
   (Ae (Ck PassesOwn.never rfl (Bt (pv 4)) (Ay (i:=6) sc.nd rfl (Or.inl rfl))
    (Ao (Bw (Bj Fk (Ax Cdue_by (hr.mono (by decide)) rfl (Aa (Bh Bp (pv 0) (pv 6) (fun _ _=>rfl)) (Aa (Bh Bp (pv 1) (pv 6) (fun _ _=>rfl)) (Aa (pv 3) Af)))) (Ax Cdue_by (hr.mono (by decide)) rfl (Aa (Bh Bp (pv 0) (pv 5) (fun _ _=>rfl)) (Aa (Bh Bp (pv 1) (pv 5) (fun _ _=>rfl)) (Aa (pv 3) Af)))) (Bm _))
    (Ao (Bf (i:=5) sc.nd rfl (Or.inl rfl) (pv 6)))
    Bl)))
   (Ao (Be (pv 5))))))),?_⟩
 refine (vE rfl ⟨a,[1],rfl,SqL.of ha,?_⟩);refine Dr [some (.ref a),some (.ref b),some (.int 0),some (.int 1),none,none,none] rfl ?_;refine (vE rfl ⟨a,_,rfl,.inl (SqL.of ha),vE rfl ⟨by decide,by decide,fun pl npl=>?_⟩⟩);refine Go (lo:=0) (n:=1) (fun i ys H2=>ys=(if i=0 then [] else [V.int 0])/\H2 pl=some (.lst ys)/\Same H H2) ⟨rfl,Ab,An npl _⟩ (fun i ys H2 hi ⟨e,h1,_⟩=>⟨h1,by rw[e]; split <;> simp; lia⟩) (by rw[zCE]; decide) (fun i ys H2 hi ⟨e,h1,s2⟩=>?_) (fun ys H2 ⟨e,h1,s2⟩=>?_)
 ·obtain rfl:i=0:=by lia
  rw[if_pos rfl] at e;subst e;exact (vE rfl (vE rfl (vI rfl rfl (SqL.of (s2 _ _ ha)) rfl (vE rfl (vE rfl (vI rfl rfl (SqL.of (s2 _ _ hb)) rfl (vE rfl (vE rfl ⟨rfl,vE rfl (Kn (vE rfl ⟨h1,rfl,rfl,Ab,fun c o z=>by rw[Ar (Ap z npl)]; exact s2 c o z⟩))⟩))))))))
 rw[if_neg (by decide)] at e;subst e;refine Dr [some (.ref a),some (.ref b),some (.int 0),some (.int 1),some (.ref pl),none,none] rfl ?_;refine (vE rfl (vI rfl rfl (SqL.of h1) rfl ?_));refine Dr [some (.ref a),some (.ref b),some (.int 0),some (.int 1),some (.ref pl),some (.int 0),none] rfl ?_;refine (vE rfl ⟨pl,rfl,⟨_,SqL.of h1⟩,?_⟩);refine Db (K:=K) (a:=pl) (xs:=[V.int 0]) (fun i σ H3=>(∃ o,σ=[some (.ref a),some (.ref b),some (.int 0),some (.int 1),some (.ref pl),some (.int 0),o])/\H3=H2) ⟨⟨none,rfl⟩,rfl⟩ (fun i σ H3 _ hh=>by rw[hh.2]; exact SqL.of h1) ?_ ?_
 ·rintro i x σ H3 hi ⟨⟨o,rfl⟩,rfl⟩
  obtain rfl:x = .int 0:=by
   match i,hi with
   | 0,h=>cases h; rfl
   | i+1,h=>simp at h
  refine Dr [some (.ref a),some (.ref b),some (.int 0),some (.int 1),some (.ref pl),some (.int 0),some (.int 0)] rfl ?_;have A:=SqL.of (K:=K) (s2 _ _ ha);have B:=SqL.of (K:=K) (s2 _ _ hb);exact (vE rfl (vE rfl ⟨a,_,_,_,rfl,rfl,A,rfl,vE rfl (vE rfl ⟨b,_,_,_,rfl,rfl,B,rfl,vE rfl ⟨rfl,vE rfl (vE rfl ⟨a,_,_,_,rfl,rfl,A,rfl,vE rfl (vE rfl ⟨b,_,_,_,rfl,rfl,B,rfl,vE rfl ⟨rfl,vF rfl rfl (vE rfl (dF (by decide) ⟨⟨_,rfl⟩,rfl⟩))⟩⟩)⟩)⟩⟩)⟩))
 ·rintro σ H3 ⟨⟨o,rfl⟩,rfl⟩
  exact (vE rfl (q _ s2))
theorem DB:Bd ["weights", "dealt", "wheel", "turn", "place"] ["weights"] (As Yo):=⟨rfl,rfl,rfl,by decide +kernel,rfl,by decide +kernel,by decide +kernel⟩
theorem CI {f:Addr} {fd:zCG} (F:Fun K "turns" "turns" Yo f fd) (T:Txt K mg) (Care_weights:Cq P w K mg base 2 "are_weights" ["thing"] BS) (Cplace_of_turn:Cq P w K mg base 2 "place_of_turn" ["weights", "dealt", "turn"] CU):FnOk P w K mg base Da 3 f fd ["weights"] DW:=by
 have sc:=DB;refine F.ok sc (fun vs H Q E h=>?_) (fun cdv A outer s H vs Q E hr h=>?_)
 ·obtain⟨_,rfl,_⟩:=h
  rfl
 obtain⟨a,rfl,ha,q⟩:=h;refine⟨_,(Ae (Bw (Dc (Cn (Ax Care_weights (hr.mono (by decide)) rfl (Aa (pv 0) Af))))
    (Ao Ew)
    Bl)
   (Ae (Fa (NC:=["weight"]) (own:=["weight"]) (cs:=[]) (ix:=[]) (j:=1) sc.nd rfl rfl rfl (CompScope.of rfl) rfl trivial (Bt (pv 0)) (fun _ _ _=>(Ay (i:=0) (show (["weight"]:List Str).Nodup from by decide +kernel) rfl (Or.inl rfl))) (fun _ _ _=>Cu) (fun _ _ _=>Al))
   (Ae (Bf (i:=2) sc.nd rfl (Or.inl rfl) (Ci Af))
   (Ae (Ck PassesOwn.never rfl (Cz rfl T.n_range (Aa (Bn (Rv rfl) rfl T.n_sum (show zCF _=some (.builtin "sum") from rfl) (Aa (pv 0) Af)) Af)) (Ay (i:=3) sc.nd rfl (Or.inl rfl))
    (Ae (Bf (i:=4) sc.nd rfl (Or.inl rfl) (Ax Cplace_of_turn (hr.mono (by decide)) rfl (Aa (pv 0) (Aa (pv 1) (Aa (pv 3) Af)))))
   (Ae (Xz (Bc Cm (Bh Bp (pv 1) (pv 4) (fun _ _=>rfl)) Al) (KF (pv 1) (pv 4) BN))
   (Ao (Cr (Gk PySem.F.plainAttrs_list PySem.F.slot_list_append PySem.F.type_list_append Do (pv 2) (Aa (pv 4) Af)))))))
   (Ao (Be (pv 2))))))),?_⟩
 refine (vE rfl ⟨a,rfl,ha,_,rfl,Dq ?_⟩);refine (vE rfl ⟨a,rfl,⟨_,SqL.of ha⟩,fun de nde=>?_⟩);refine Cb (K:=K) (a:=a) (xs:=Yb) (fun i ys H2=>ys=(if i=0 then [] else [V.int 0])/\H2 de=some (.lst ys)/\Same H H2) ⟨rfl,Ab,An nde _⟩ (fun i ys H2 hi ⟨e,h1,s2⟩=>⟨h1,by rw[e]; split <;> simp; lia,SqL.of (s2 _ _ ha)⟩) (by rw[zCE]; decide) (fun i x ys H2 hi ⟨e,h1,s2⟩=>?_) (fun ys H2 ⟨e,h1,s2⟩=>?_)
 ·have il:=(zAi.mp hi).1
  obtain rfl:i=0:=by have:i<1:=il; lia
  rw[if_pos rfl] at e;subst e;exact⟨h1,rfl,rfl,Ab,fun c o z=>by rw[Ar (Ap z nde)]; exact s2 c o z⟩
 rw[if_neg (by decide)] at e;subst e;refine Dr [some (.ref a),some (.ref de),none,none,none] rfl ?_;refine⟨zAD _,fun wh nwh=>?_⟩;have s3:=An nwh (.lst []);have h3:upd H2 wh (.lst []) wh=some (.lst []):=Ab;have nwd:de≠wh:=Ap h1 nwh;generalize upd H2 wh (.lst [])=H3 at s3 h3;refine Dr [some (.ref a),some (.ref de),some (.ref wh),none,none] rfl ?_;have S3:=s2.trans s3;refine (vE rfl ⟨a,[1],rfl,SqL.of (S3 _ _ ha),vE rfl ⟨by decide,by decide,?_⟩⟩);refine En (lo:=0) (n:=1) (fun i σ H4=>(∃ o3 o4,σ=[some (.ref a),some (.ref de),some (.ref wh),o3,o4])/\(i=0->H4=H3)/\Same H H4) ⟨⟨none,none,rfl⟩,fun _=>rfl,S3⟩ ?_ ?_
 ·rintro i σ H4 hi ⟨⟨o3,o4,rfl⟩,e4,s4⟩
  obtain rfl:i=0:=by lia
  obtain rfl:=e4 rfl;refine Dr [some (.ref a),some (.ref de),some (.ref wh),some (.int 0),o4] rfl ?_;refine (vE rfl (vE rfl (vE rfl ⟨a,de,rfl,S3 _ _ ha,s3 _ _ h1,fun H5 s5=>?_⟩)));refine Dr [some (.ref a),some (.ref de),some (.ref wh),some (.int 0),some (.int 0)] rfl ?_;have hde:=s5 _ _ (s3 _ _ h1);refine (vE rfl (vE rfl (vI rfl rfl (SqL.of hde) rfl (vF rfl rfl (vE rfl (vE rfl ⟨de,_,_,0,rfl,rfl,hde,rfl,?_⟩))))));have hwh:∀ o,upd H5 de o wh=some (.lst []):=fun o=>by rw[Ar nwd.symm]; exact s5 _ _ h3
  refine (vE rfl ⟨.inl ⟨rfl,_,SqL.of (hwh _)⟩,vE rfl ⟨wh,_,_,rfl,rfl,hwh _,by rw[zCE]; decide,⟨_,_,rfl⟩,(fun e=>by lia),fun c o z=>?_⟩⟩);have fde:H de=none:=nde;rw[Ar (Ap z (s2.free nwh)),Ar (Ap z fde)];exact s5 _ _ (S3 c o z)
 ·rintro σ H4 ⟨⟨o3,o4,rfl⟩,_,s4⟩
  exact (vE rfl (q wh H4 s4))
theorem Od:Bd ["self", "weights"] ["self", "weights"] (As Fw):=⟨rfl,rfl,rfl,by decide +kernel,rfl,by decide +kernel,by decide +kernel⟩
theorem Nm {f:Addr} {fd:zCG} (F:Fun K "__init__" "Deal.__init__" Fw f fd) (T:Txt K mg) (L:Kl K mg Ac Ag Ah Am Au Bb Ba At Ad Aw Ak Aj Bg Ai Az Aq) (Cturns:Cq P w K mg base 3 "turns" ["weights"] DW):FnOk P w K mg base Da 4 f fd ["self", "weights"] (DS Bg):=by
 have sc:=Od;refine F.ok sc (fun vs H Q E h=>?_) (fun cdv A outer s H vs Q E hr h=>?_)
 ·obtain⟨_,_,_,rfl,_⟩:=h
  rfl
 obtain⟨p,dx,a,rfl,hp,ha,q⟩:=h;refine⟨_,(Ae (Ct (pv 0) (Ax Cturns (hr.mono (by decide)) rfl (Aa (pv 1) Af)) rfl)
   (Ao (Ct (pv 0) (Ep Dp rfl T.n_list (show zCF _=some (.type "list") from rfl) (Aa (pv 1) Af)) rfl))),?_⟩
 have nap:a≠p:=Iz ha hp (by intro z; cases z);have k0:KB p H H:=fun _ _ e _=>e;refine (vE rfl ⟨a,rfl,ha,fun wh H1 s1=>?_⟩);refine (vE rfl ⟨p,Bg,dx,[],rfl,s1 _ _ hp,L.cl_Deal,L.na_Deal_wheel,(by show 0<1000; decide),?_⟩);have k2:=(k0.same s1).upd (.ins Bg dx (Bs "wheel" (.ref wh) []));refine (vE rfl ⟨a,_,rfl,.inl (SqL.of (k2 _ _ ha nap)),fun wt nwt=>?_⟩);have hpt:p≠wt:=fun z=>by rw[<- z,Ab] at nwt; cases nwt
 refine (vE rfl ⟨p,Bg,dx,_,rfl,(by rw[Ar hpt,Ab]),L.cl_Deal,L.na_Deal_weights,(by show 1<1000; decide),?_⟩);exact q _ ((k2.same (An nwt _)).upd _)
theorem Pe:Bd ["houses", "k", "house"] ["houses"] (As Gh):=⟨rfl,rfl,rfl,by decide +kernel,rfl,by decide +kernel,by decide +kernel⟩
theorem Pf {f:Addr} {fd:zCG} (F:Fun K "check_houses" "check_houses" Gh f fd) (T:Txt K mg) (Cis_name:Cq P w K mg base 2 "is_name" ["thing"] (Ws K)):FnOk P w K mg base Da 3 f fd ["houses"] ED:=by
 have sc:=Pe;refine F.ok sc (fun vs H Q E h=>?_) (fun cdv A outer s H vs Q E hr h=>?_)
 ·obtain⟨_,rfl,_⟩:=h
  rfl
 obtain⟨a,rfl,ha,q⟩:=h;refine⟨_,(Ao (Ck PassesOwn.never rfl (Mn rfl T.n_enumerate (Aa (pv 0) Af)) (Ea (n:=2) rfl (Bk (Ay (i:=1) sc.nd rfl (Or.inl rfl)) (Bk (Ay (i:=2) sc.nd rfl (Or.inl rfl)) Dh)))
    (Ao (Bw (PW.pt (Gv (Dc (Cn (Ax Cis_name (hr.mono (by decide)) rfl (Aa (pv 2) Af)))) (Ft (Bj Nq (pv 2) (Ru Wb (pv 0) Yk (Yc (pv 1))) rfl))))
    (Ao Ew)
    Bl)))),?_⟩
 refine (vE rfl ⟨a,rfl,⟨_,SqL.of ha⟩,Tj (K:=K) (a:=a) (xs:=[V.str "h"]) (fun i σ H2=>(∃ o1 o2,σ=[some (.ref a),o1,o2])/\Same H H2) ⟨⟨none,none,rfl⟩,fun _ _ z=>z⟩ (fun i σ H2 _ hh=>SqL.of (hh.2 _ _ ha)) ?_ ?_⟩)
 ·rintro i x σ H2 t hi ⟨⟨o1,o2,rfl⟩,s2⟩ nt
  have il:=(zAi.mp hi).1;obtain rfl:i=0:=by have:i<1:=il; lia
  obtain rfl:x = .str "h" := by cases hi; rfl
  have s3:=s2.trans (An nt (.tup [V.int 0,.str "h"]));have q3:Pb (.str "h")=true:=IL;refine (vE rfl ⟨_,_,rfl,.str _,(fun y e=>by cases e; exact zAG LM (by decide)),_,rfl,?_⟩);rw[q3];refine Dq (vE rfl (vE rfl (vE rfl (vE rfl ⟨a,_,rfl,SqL.of (s3 _ _ ha),fun m nm=>⟨m,[],rfl,.inl (SqL.of Ab),rfl,rfl,vE rfl (Dq ⟨⟨_,_,rfl⟩,s3.trans (An nm _)⟩)⟩⟩))))
 ·rintro σ H2 ⟨⟨o1,o2,rfl⟩,s2⟩
  exact q _ s2
end
def O2 (C:Addr):Sp:=fun vs H Q _=>∃ p dx nm cd c0 cs h0 t,∃ wv:Bool,vs=[.ref p,.str nm,cd,.ref c0,.ref h0,.bl wv]/\H p=some (.ins C dx [])/\(Pb (.str nm)=true/\nm.length<=8/\nm ≠ "self")/\H c0=some (.lst cs)/\cs.length<=8/\H h0=some (.lst [.ref t])/\H t=some (.tup [.str "h",.int 1]) /\
 ∀ H' cl h1 d0 fs,KB p H H'->H' p=some (.ins C d0 fs)->fs.lookup ("name" : Str)=some (.str nm)->fs.lookup ("condition" : Str)=some cd->fs.lookup ("clauses" : Str)=some (.ref cl)->fs.lookup ("houses" : Str)=some (.ref h1)->fs.lookup ("waits" : Str)=some (.bl wv)->noM5 fs->H' cl=some (.lst cs)->H cl=none->H' h1=some (.lst [.str "h"])->H h1=none->Q .non H'
section
variable {P:Program} {w:World} {K:zAa} {mg:Str->Option Value} {base:Heap} {Ac Ag Ah Am Au Bb Ba At Ad Aw Ak Aj Bg Ai Az Aq:Addr}
theorem Mb:Bd ["self", "name", "condition", "clauses", "houses", "waits", "pairs"] ["self", "name", "condition", "clauses", "houses", "waits"] (As Ce):=⟨rfl,rfl,rfl,by decide +kernel,rfl,by decide +kernel,by decide +kernel⟩
seal L2.PS L2.PSs L2.PE L2.PA
theorem Mv {f:Addr} {fd:zCG} (F:FunD K "__init__" "Cover.__init__" Ce f fd) (T:Txt K mg) (L:Kl K mg Ac Ag Ah Am Au Bb Ba At Ad Aw Ak Aj Bg Ai Az Aq) (Cis_name:Cq P w K mg base 2 "is_name" ["thing"] (Ws K)) (Ccheck_houses:Cq P w K mg base 3 "check_houses" ["houses"] ED)
  (KDeal:Ej P w K mg base 4 "Deal" Bg ["self", "weights"] (DS Bg)):FnOk P w K mg base Da 6 f fd ["self", "name", "condition", "clauses", "houses", "waits"] (O2 Ai):=by
 have sc:=Mb;refine F.ok sc (fun vs H Q E h=>?_) (fun cdv A outer s H vs Q E hr h=>?_)
 ·obtain⟨_,_,_,_,_,_,_,_,_,rfl,_⟩:=h
  rfl
 obtain⟨p,dx,nm,cd,c0,cs,h0,t,wv,rfl,hp,⟨nx,n8,ns⟩,hc,l8,hh,ht,q⟩:=h;refine⟨_,(Ae (Bw (PW.pt (Gv (Dc (Cn (Ax Cis_name (hr.mono (by decide)) rfl (Aa (pv 1) Af)))) (Ft (Bj Di (pv 1) (P6 T.g_COVERED_ONE rfl) (Bm _)))))
    (Ao Ew)
    Bl)
   (Ae (Ct (pv 0) (pv 1) rfl)
   (Ae (Ct (pv 0) (pv 2) rfl)
   (Ae (Ct (pv 0) (Me (Bj Qu (pv 3) Gj (Bm _)) (Ci Af) (Ep Dp rfl T.n_list (show zCF _=some (.type "list") from rfl) (Aa (pv 3) Af))) rfl)
   (Ae (Bw (Bj Vt (Bn Cc rfl T.n_len (show zCF _=some (.builtin "len") from rfl) (Aa (Cp (pv 0) rfl) Af)) (Dm T.g_MOST_CLAUSES rfl) (Bm _))
    (Ao Ew)
    Bl)
   (Ae (Bf (i:=6) sc.nd rfl (Or.inl rfl) (Me (Bj Qu (pv 4) Gj (Bm _)) (Ci (Aa (Cd (Aa (pv 1) (Aa Al Af))) Af)) (pv 4)))
   (Ae (Ct (pv 0) (De (NC:=["pair"]) (own:=["pair"]) (cs:=[]) (ix:=[]) rfl (CompScope.of rfl) rfl trivial (Bt (pv 6)) (fun _ _ _=>(Ay (i:=0) (show (["pair"]:List Str).Nodup from by decide +kernel) rfl (Or.inl rfl))) (fun _ _ _=>Cu) (fun _ _ _=>(Bh (Cs (K:=K) rfl) (pv 0) Al (fun _ _=>rfl)))) rfl)
   (Ae (Cr (Ax Ccheck_houses (hr.mono (by decide)) rfl (Aa (Cp (pv 0) rfl) Af)))
   (Ae (Ct (pv 0) (Dd KDeal (hr.mono (by decide)) rfl (Aa (De (NC:=["pair"]) (own:=["pair"]) (cs:=[]) (ix:=[]) rfl (CompScope.of rfl) rfl trivial (Bt (pv 6)) (fun _ _ _=>(Ay (i:=0) (show (["pair"]:List Str).Nodup from by decide +kernel) rfl (Or.inl rfl))) (fun _ _ _=>Cu) (fun _ _ _=>(Bh (Cs (K:=K) rfl) (pv 0) Al (fun _ _=>rfl)))) Af)) rfl)
   (Ao (Ct (pv 0) (pv 5) rfl))))))))))),?_⟩
 have k0:KB p H H:=fun _ _ e _=>e;have nc0:c0≠p:=Iz hc hp (by intro z; cases z);have nh0:h0≠p:=Iz hh hp (by intro z; cases z);have nt:t≠p:=Iz ht hp (by intro z; cases z);refine (vE rfl ⟨_,_,rfl,.str nm,(fun y e=>by cases e; exact zAG n8 (by decide)),_,rfl,?_⟩);rw[nx];refine Dq (vE rfl ⟨rfl,vE rfl (dF (fun e=>ns (V.str.inj e)) ?_)⟩);refine (vE rfl (vE rfl ⟨p,Ai,dx,[],rfl,hp,L.cl_Cover,L.na_Cover_name,by decide,?_⟩));refine (vE rfl (vE rfl ⟨p,Ai,dx,_,rfl,Ab,L.cl_Cover,L.na_Cover_condition,zCq (Fl _ _ _) (by decide),?_⟩));have k2:KB p H (upd (upd H p (.ins Ai dx (Bs "name" (.str nm) []))) p (.ins Ai dx (Bs "condition" cd (Bs "name" (.str nm) [])))):=KB.upd (KB.upd k0 _) _;have e2:upd (upd H p (.ins Ai dx (Bs "name" (.str nm) []))) p (.ins Ai dx (Bs "condition" cd (Bs "name" (.str nm) []))) p=some (.ins Ai dx (Bs "condition" cd (Bs "name" (.str nm) []))):=Ab;have g2:(Bs "condition" cd (Bs "name" (.str nm) [])).length<=2:=zAG (Fl _ _ _) (Nat.succ_le_succ (Fl _ _ _));have n2:(Bs "condition" cd (Bs "name" (.str nm) [])).lookup ("name" : Str)=some (.str nm)/\(Bs "condition" cd (Bs "name" (.str nm) [])).lookup ("condition" : Str)=some cd:=⟨by rw[f1 (by decide +kernel),f0],f0⟩;have a2:noM5 (Bs "condition" cd (Bs "name" (.str nm) [])):=noM5.put (noM5.put ⟨rfl,rfl,rfl,rfl,rfl⟩ (by decide +kernel) (by decide +kernel) (by decide +kernel) (by decide +kernel) (by decide +kernel)) (by decide +kernel) (by decide +kernel) (by decide +kernel) (by decide +kernel) (by decide +kernel);generalize Bs "condition" cd (Bs "name" (.str nm) [])=fs2 at k2 e2 g2 n2 a2
 generalize upd (upd H p (.ins Ai dx (Bs "name" (.str nm) []))) p (.ins Ai dx fs2)=H2 at k2 e2;refine (vE rfl ⟨rfl,vE rfl (dF (fun e=>by cases e) (vE rfl ⟨c0,_,rfl,.inl (SqL.of (k2 _ _ hc nc0)),fun cl ncl=>?_⟩))⟩);have s3:=An ncl (.lst cs);have ncp:cl≠p:=(Ap e2 ncl).symm;have fcl:H cl=none:=k2.free ncp ncl;refine (vE rfl ⟨p,Ai,dx,fs2,rfl,s3 _ _ e2,L.cl_Cover,L.na_Cover_clauses,by lia,?_⟩);have k3:=(k2.same s3).upd (.ins Ai dx (Bs "clauses" (.ref cl) fs2));have e3:upd (upd H2 cl (.lst cs)) p (.ins Ai dx (Bs "clauses" (.ref cl) fs2)) p=some (.ins Ai dx (Bs "clauses" (.ref cl) fs2)):=Ab;have c3:upd (upd H2 cl (.lst cs)) p (.ins Ai dx (Bs "clauses" (.ref cl) fs2)) cl=some (.lst cs):=by rw[Ar ncp,Ab]
 have g3:(Bs "clauses" (.ref cl) fs2).length<=3:=zAG (Fl _ _ _) (by lia);have n3:(Bs "clauses" (.ref cl) fs2).lookup ("name" : Str)=some (.str nm)/\(Bs "clauses" (.ref cl) fs2).lookup ("condition" : Str)=some cd/\(Bs "clauses" (.ref cl) fs2).lookup ("clauses" : Str)=some (.ref cl):=⟨by rw[f1 (by decide +kernel)]; exact n2.1,by rw[f1 (by decide +kernel)]; exact n2.2,f0⟩;have a3:noM5 (Bs "clauses" (.ref cl) fs2):=a2.put (by decide +kernel) (by decide +kernel) (by decide +kernel) (by decide +kernel) (by decide +kernel);generalize Bs "clauses" (.ref cl) fs2=fs3 at k3 e3 c3 g3 n3 a3;generalize upd (upd H2 cl (.lst cs)) p (.ins Ai dx fs3)=H3 at k3 e3 c3;refine (vE rfl ⟨p,Ai,dx,fs3,_,rfl,e3,L.cl_Cover,L.na_Cover_clauses,n3.2.2,cl,_,rfl,.inl (SqL.of c3),vF rfl rfl (vE rfl (dF (by lia) ?_))⟩);refine (vE rfl ⟨rfl,vE rfl (dF (fun e=>by cases e) (vE rfl ?_))⟩);refine Dr [some (.ref p),some (.str nm),some cd,some (.ref c0),some (.ref h0),some (.bl wv),some (.ref h0)] rfl ?_;have hh3:=k3 _ _ hh nh0;have ht3:=k3 _ _ ht nt;have g1of:∀ {i:Nat} {x:V},[V.ref t][i]?=some x->i=0/\x = .ref t:=fun {i x} h=>by
  match i,h with
  | 0,h=>cases h; exact⟨rfl,rfl⟩
  | i+1,h=>simp at h
 refine (vE rfl ⟨h0,rfl,⟨_,SqL.of hh3⟩,fun h1 nh=>?_⟩);refine Cb (K:=K) (a:=h0) (xs:=[V.ref t]) (fun i zs H5=>zs=(if i=0 then [] else [V.str "h"])/\H5 h1=some (.lst zs)/\Same H3 H5) ⟨rfl,Ab,An nh _⟩ (fun i zs H5 hi ⟨e,h1',s5⟩=>⟨h1',by rw[e]; split <;> simp; lia,SqL.of (s5 _ _ hh3)⟩) (by rw[zCE]; show 1<=16777216; decide) (fun i x zs H5 hi ⟨e,h1',s5⟩=>?_) (fun zs H5 ⟨e,h1',s5⟩=>?_)
 ·obtain⟨rfl,rfl⟩:=g1of hi
  rw[if_pos rfl] at e;subst e;exact (vE rfl (vI rfl rfl (SqT.of (s5 _ _ ht3)) rfl ⟨h1',rfl,rfl,Ab,fun b o z=>by rw[Ar (Ap z nh)]; exact s5 b o z⟩))
 rw[if_neg (by show ¬ 1=0; decide)] at e;subst e;have e5:=s5 _ _ e3;have nhp:h1≠p:=(Ap e3 nh).symm;have fh1:H h1=none:=k3.free nhp nh;refine (vE rfl ⟨p,Ai,dx,fs3,rfl,e5,L.cl_Cover,L.na_Cover_houses,by lia,?_⟩);have k6:=(k3.same s5).upd (.ins Ai dx (Bs "houses" (.ref h1) fs3));have e6:upd H5 p (.ins Ai dx (Bs "houses" (.ref h1) fs3)) p=some (.ins Ai dx (Bs "houses" (.ref h1) fs3)):=Ab;have h6:upd H5 p (.ins Ai dx (Bs "houses" (.ref h1) fs3)) h1=some (.lst [.str "h"]):=by rw[Ar nhp]; exact h1'
 have c6:upd H5 p (.ins Ai dx (Bs "houses" (.ref h1) fs3)) cl=some (.lst cs):=by rw[Ar ncp]; exact s5 _ _ c3
 have g6:(Bs "houses" (.ref h1) fs3).length<=4:=zAG (Fl _ _ _) (by lia);have n6:(Bs "houses" (.ref h1) fs3).lookup ("name" : Str)=some (.str nm)/\(Bs "houses" (.ref h1) fs3).lookup ("condition" : Str)=some cd/\(Bs "houses" (.ref h1) fs3).lookup ("clauses" : Str)=some (.ref cl)/\(Bs "houses" (.ref h1) fs3).lookup ("houses" : Str)=some (.ref h1):=⟨by rw[f1 (by decide +kernel)]; exact n3.1,by rw[f1 (by decide +kernel)]; exact n3.2.1,by rw[f1 (by decide +kernel)]; exact n3.2.2,f0⟩;have a6:noM5 (Bs "houses" (.ref h1) fs3):=a3.put (by decide +kernel) (by decide +kernel) (by decide +kernel) (by decide +kernel) (by decide +kernel);generalize Bs "houses" (.ref h1) fs3=fs6 at e6 h6 c6 k6 g6 n6 a6;generalize upd H5 p (.ins Ai dx fs6)=H6 at e6 h6 c6 k6;refine (vE rfl ⟨p,Ai,dx,fs6,_,rfl,e6,L.cl_Cover,L.na_Cover_houses,n6.2.2.2,h1,rfl,h6,fun H7 s7=>?_⟩);have k7:=k6.same s7;have hh7:=k7 _ _ hh nh0;have ht7:=k7 _ _ ht nt;refine (vE rfl ⟨h0,rfl,⟨_,SqL.of hh7⟩,fun wl nwl=>?_⟩);refine Cb (K:=K) (a:=h0) (xs:=[V.ref t]) (fun i zs H8=>zs=(if i=0 then [] else Yb)/\H8 wl=some (.lst zs)/\Same H7 H8) ⟨rfl,Ab,An nwl _⟩ (fun i zs H8 hi ⟨e,h2,s8⟩=>⟨h2,by rw[e]; split <;> simp [Yb]; lia,SqL.of (s8 _ _ hh7)⟩) (by rw[zCE]; show 1<=16777216; decide) (fun i x zs H8 hi ⟨e,h2,s8⟩=>?_) (fun zs H8 ⟨e,h2,s8⟩=>?_)
 ·obtain⟨rfl,rfl⟩:=g1of hi
  rw[if_pos rfl] at e;subst e;exact (vE rfl (vI rfl rfl (SqT.of (s8 _ _ ht7)) rfl ⟨h2,rfl,rfl,Ab,fun b o z=>by rw[Ar (Ap z nwl)]; exact s8 b o z⟩))
 rw[if_neg (by show ¬ 1=0; decide)] at e;subst e;intro d dd nd ndd nde;have s9:Same H8 (upd (upd H8 dd (.own d)) d (.ins Bg dd [])):=(An ndd _).trans (An (by rw[Ar (Ne.symm nde)]; exact nd) _);refine⟨d,dd,wl,rfl,Ab,s9 _ _ h2,fun H9 kp9=>⟨rfl,?_⟩⟩;have s10:Same H6 H9:=s7.trans (s8.trans (Dw nd ndd kp9));refine (vE rfl ⟨p,Ai,dx,fs6,rfl,s10 _ _ e6,L.cl_Cover,L.na_Cover_deal,by lia,?_⟩);have g10:(Bs "deal" (.ref d) fs6).length<=5:=zAG (Fl _ _ _) (by lia);refine (vE rfl (vE rfl ⟨p,Ai,dx,_,rfl,Ab,L.cl_Cover,L.na_Cover_waits,by lia,?_⟩));have lk:∀ {f:Str} {v:V},fs6.lookup f=some v->¬ f = "deal" -> ¬ f = "waits" -> (Bs "waits" (.bl wv) (Bs "deal" (.ref d) fs6)).lookup f=some v:=fun h n1 n2=>by rw[f1 n2,f1 n1]; exact h
 refine q _ cl h1 dx _ (((k6.same s10).upd _).upd _) Ab (lk n6.1 (by decide +kernel) (by decide +kernel)) (lk n6.2.1 (by decide +kernel) (by decide +kernel)) (lk n6.2.2.1 (by decide +kernel) (by decide +kernel)) (lk n6.2.2.2 (by decide +kernel) (by decide +kernel)) f0 (noM5.put (a6.put (by decide +kernel) (by decide +kernel) (by decide +kernel) (by decide +kernel) (by decide +kernel)) (by decide +kernel) (by decide +kernel) (by decide +kernel) (by decide +kernel) (by decide +kernel)) ?_ fcl ?_ fh1
 ·rw[Ar ncp,Ar ncp]; exact s10 _ _ c6
 ·rw[Ar nhp,Ar nhp]; exact s10 _ _ h6
end
def PV (fs:List (Str×V)):Prop:=fs.lookup ("spans" : Str)=none/\fs.lookup ("window" : Str)=none/\fs.lookup ("parts" : Str)=none/\fs.lookup ("rest" : Str)=none
def CvAt (C:Addr) (H:Hp) (p cl:Addr):Prop:=∃ dx fs,H p=some (.ins C dx fs)/\fs.lookup ("clauses" : Str)=some (.ref cl)/\PV fs
theorem CvAt.same {C:Addr} {H H':Hp} {p cl:Addr} (h:CvAt C H p cl) (s:Same H H'):CvAt C H' p cl:=by
 obtain⟨dx,fs,e,r⟩:=h;exact⟨dx,fs,s _ _ e,r⟩
theorem Ye {α:Type} {l:List α} {i:Nat} {x:α} (h:l[i]?=some x):l.drop i=x::l.drop (i+1):=by
 rw[zBu (zAi.mp h).1]
 congr 1
 exact (zAi.mp h).2
def Iy (C:Addr) (f:Str):Sp:=fun vs H Q _=>∃ p dx v,vs=[.ref p,v]/\H p=some (.ins C dx [])/\Q .non (upd H p (.ins C dx (Bs f v [])))
def CJ (C:Addr):Sp:=fun vs H Q _=>∃ p dx v w,vs=[.ref p,v,w]/\H p=some (.ins C dx [])/\∀ H',(∀ b,b≠p->H' b=H b)->H' p=some (.ins C dx (Bs "last" w (Bs "first" v [])))->Q .non H'
def Vo (C:Addr):Sp:=fun vs H Q _=>∃ p dx a xs,vs=[.ref p,.ref a]/\H p=some (.ins C dx [])/\H a=some (.lst xs)/\∀ l H',H l=none->(∀ b,b≠p->b≠l->H' b=H b)->H' p=some (.ins C dx (Bs "several" (.ref l) []))->H' l=some (.lst xs)->Q .non H'
def Ds (κ:A8) (m:Nat) (C:Addr):Sp:=fun vs H Q _=>∃ p t l x,vs=[.ref p,.ref l]/\CdAt κ H (.ref p) t/\κ.of t=C/\Ow t<m/\ML H l x/\Q (.bl (hT t x)) H
section
variable {P:Program} {w:World} {K:zAa} {mg:Str->Option Value} {base:Heap} {Ac Ag Ah Am Au Bb Ba At Ad Aw Ak Aj Bg Ai Az Aq:Addr}
theorem IE (L:Kl K mg Ac Ag Ah Am Au Bb Ba At Ad Aw Ak Aj Bg Ai Az Aq):(A8.mk Ac Ag Ah Am Au Bb Ba At).l.Nodup:=by
 first
  | exact L.nd
  | exact List.Nodup.sublist (List.sublist_append_left (A8.mk Ac Ag Ah Am Au Bb Ba At).l _) L.nd
theorem Fj {κ:A8} {C:Addr} {vs:List V} {H:Hp} {Q:VK} {E:XK} (h:Ds κ 0 C vs H Q E):False:=by
 obtain⟨_,_,_,_,_,_,_,h,_⟩:=h;exact absurd h (zBq _)
theorem Ku:Bd ["self", "name"] ["self", "name"] (As El):=⟨rfl,rfl,rfl,by decide +kernel,rfl,by decide +kernel,by decide +kernel⟩
theorem Km {f:Addr} {fd:zCG} (F:Fun K "__init__" "CauseIs.__init__" El f fd) (L:Kl K mg Ac Ag Ah Am Au Bb Ba At Ad Aw Ak Aj Bg Ai Az Aq):FnOk P w K mg base Da 1 f fd ["self", "name"] (Iy Ag "name"):=by
 have sc:=Ku;refine F.ok sc (fun vs H Q E h=>?_) (fun cdv A outer s H vs Q E hr h=>?_)
 ·obtain⟨_,_,_,rfl,_⟩:=h
  rfl
 obtain⟨p,dx,n,rfl,hp,q⟩:=h;refine⟨_,(Ao (Ct (pv 0) (pv 1) rfl)),?_⟩;exact (vE rfl (vE rfl ⟨p,_,dx,_,rfl,hp,L.cl_CauseIs,L.na_CauseIs_name,(by show 0<1000; decide),q⟩))
theorem Kq:Bd ["self", "name"] ["self", "name"] (As Eh):=⟨rfl,rfl,rfl,by decide +kernel,rfl,by decide +kernel,by decide +kernel⟩
theorem Kr {f:Addr} {fd:zCG} (F:Fun K "__init__" "ThingIs.__init__" Eh f fd) (L:Kl K mg Ac Ag Ah Am Au Bb Ba At Ad Aw Ak Aj Bg Ai Az Aq):FnOk P w K mg base Da 1 f fd ["self", "name"] (Iy Ah "name"):=by
 have sc:=Kq;refine F.ok sc (fun vs H Q E h=>?_) (fun cdv A outer s H vs Q E hr h=>?_)
 ·obtain⟨_,_,_,rfl,_⟩:=h
  rfl
 obtain⟨p,dx,n,rfl,hp,q⟩:=h;refine⟨_,(Ao (Ct (pv 0) (pv 1) rfl)),?_⟩;exact (vE rfl (vE rfl ⟨p,_,dx,_,rfl,hp,L.cl_ThingIs,L.na_ThingIs_name,(by show 0<1000; decide),q⟩))
theorem Oc:Bd ["self", "cents"] ["self", "cents"] (As Fm):=⟨rfl,rfl,rfl,by decide +kernel,rfl,by decide +kernel,by decide +kernel⟩
theorem No {f:Addr} {fd:zCG} (F:Fun K "__init__" "Over.__init__" Fm f fd) (L:Kl K mg Ac Ag Ah Am Au Bb Ba At Ad Aw Ak Aj Bg Ai Az Aq):FnOk P w K mg base Da 1 f fd ["self", "cents"] (Iy Au "cents"):=by
 have sc:=Oc;refine F.ok sc (fun vs H Q E h=>?_) (fun cdv A outer s H vs Q E hr h=>?_)
 ·obtain⟨_,_,_,rfl,_⟩:=h
  rfl
 obtain⟨p,dx,n,rfl,hp,q⟩:=h;refine⟨_,(Ao (Ct (pv 0) (pv 1) rfl)),?_⟩;exact (vE rfl (vE rfl ⟨p,_,dx,_,rfl,hp,L.cl_Over,L.na_Over_cents,(by show 0<1000; decide),q⟩))
theorem Ps:Bd ["self", "part"] ["self", "part"] (As Gm):=⟨rfl,rfl,rfl,by decide +kernel,rfl,by decide +kernel,by decide +kernel⟩
theorem Po {f:Addr} {fd:zCG} (F:Fun K "__init__" "Not.__init__" Gm f fd) (L:Kl K mg Ac Ag Ah Am Au Bb Ba At Ad Aw Ak Aj Bg Ai Az Aq):FnOk P w K mg base Da 1 f fd ["self", "part"] (Iy Bb "part"):=by
 have sc:=Ps;refine F.ok sc (fun vs H Q E h=>?_) (fun cdv A outer s H vs Q E hr h=>?_)
 ·obtain⟨_,_,_,rfl,_⟩:=h
  rfl
 obtain⟨p,dx,n,rfl,hp,q⟩:=h;refine⟨_,(Ao (Ct (pv 0) (pv 1) rfl)),?_⟩;exact (vE rfl (vE rfl ⟨p,_,dx,_,rfl,hp,L.cl_Not,L.na_Not_part,(by show 0<1000; decide),q⟩))
theorem Ll:Bd ["self", "first", "last"] ["self", "first", "last"] (As Ez):=⟨rfl,rfl,rfl,by decide +kernel,rfl,by decide +kernel,by decide +kernel⟩
theorem Lb {f:Addr} {fd:zCG} (F:Fun K "__init__" "DaysIn.__init__" Ez f fd) (L:Kl K mg Ac Ag Ah Am Au Bb Ba At Ad Aw Ak Aj Bg Ai Az Aq):FnOk P w K mg base Da 1 f fd ["self", "first", "last"] (CJ Am):=by
 have sc:=Ll;refine F.ok sc (fun vs H Q E h=>?_) (fun cdv A outer s H vs Q E hr h=>?_)
 ·obtain⟨_,_,_,_,rfl,_⟩:=h
  rfl
 obtain⟨p,dx,a,b,rfl,hp,q⟩:=h;refine⟨_,(Ae (Ct (pv 0) (pv 1) rfl)
   (Ao (Ct (pv 0) (pv 2) rfl))),?_⟩
 refine (vE rfl (vE rfl ⟨p,_,dx,_,rfl,hp,L.cl_DaysIn,L.na_DaysIn_first,(by show 0<1000; decide),?_⟩));exact (vE rfl (vE rfl ⟨p,_,dx,_,rfl,Ab,L.cl_DaysIn,L.na_DaysIn_last,(by show 1<1000; decide),q _ (fun b n=>by rw[Ar n,Ar n]) Ab⟩))
theorem Pl:Bd ["self", "several"] ["self", "several"] (As Gn):=⟨rfl,rfl,rfl,by decide +kernel,rfl,by decide +kernel,by decide +kernel⟩
theorem Pt {f:Addr} {fd:zCG} (F:Fun K "__init__" "All.__init__" Gn f fd) (T:Txt K mg) (L:Kl K mg Ac Ag Ah Am Au Bb Ba At Ad Aw Ak Aj Bg Ai Az Aq):FnOk P w K mg base Da 1 f fd ["self", "several"] (Vo Ba):=by
 have sc:=Pl;refine F.ok sc (fun vs H Q E h=>?_) (fun cdv A outer s H vs Q E hr h=>?_)
 ·obtain⟨_,_,_,_,rfl,_⟩:=h
  rfl
 obtain⟨p,dx,a,xs,rfl,hp,ha,q⟩:=h;refine⟨_,(Ao (Ct (pv 0) (Ep Dp rfl T.n_list (show zCF _=some (.type "list") from rfl) (Aa (pv 1) Af)) rfl)),?_⟩;refine (vE rfl ⟨a,_,rfl,.inl (SqL.of ha),fun l hl=>?_⟩);have hpl:p≠l:=Ap hp hl;exact (vE rfl ⟨p,_,dx,_,rfl,(by rw[Ar hpl]; exact hp),L.cl_All,L.na_All_several,(by show 0<1000; decide),q l _ hl (fun b n1 n2=>by rw[Ar n1,Ar n2]) Ab (by rw[Ar hpl.symm,Ab])⟩)
theorem Og:Bd ["self", "several"] ["self", "several"] (As Fs):=⟨rfl,rfl,rfl,by decide +kernel,rfl,by decide +kernel,by decide +kernel⟩
theorem Nx {f:Addr} {fd:zCG} (F:Fun K "__init__" "Some.__init__" Fs f fd) (T:Txt K mg) (L:Kl K mg Ac Ag Ah Am Au Bb Ba At Ad Aw Ak Aj Bg Ai Az Aq):FnOk P w K mg base Da 1 f fd ["self", "several"] (Vo At):=by
 have sc:=Og;refine F.ok sc (fun vs H Q E h=>?_) (fun cdv A outer s H vs Q E hr h=>?_)
 ·obtain⟨_,_,_,_,rfl,_⟩:=h
  rfl
 obtain⟨p,dx,a,xs,rfl,hp,ha,q⟩:=h;refine⟨_,(Ao (Ct (pv 0) (Ep Dp rfl T.n_list (show zCF _=some (.type "list") from rfl) (Aa (pv 1) Af)) rfl)),?_⟩;refine (vE rfl ⟨a,_,rfl,.inl (SqL.of ha),fun l hl=>?_⟩);have hpl:p≠l:=Ap hp hl;exact (vE rfl ⟨p,_,dx,_,rfl,(by rw[Ar hpl]; exact hp),L.cl_Some,L.na_Some_several,(by show 0<1000; decide),q l _ hl (fun b n1 n2=>by rw[Ar n1,Ar n2]) Ab (by rw[Ar hpl.symm,Ab])⟩)
theorem Lx:Bd ["self", "loss"] ["self", "loss"] (As Ev):=⟨rfl,rfl,rfl,by decide +kernel,rfl,by decide +kernel,by decide +kernel⟩
theorem Ln {f:Addr} {fd:zCG} (F:Fun K "holds" "Condition.holds" Ev f fd) (L:Kl K mg Ac Ag Ah Am Au Bb Ba At Ad Aw Ak Aj Bg Ai Az Aq) {m:Nat}:FnOk P w K mg base Da 1 f fd ["self", "loss"] (Ds (A8.mk Ac Ag Ah Am Au Bb Ba At) m Ac):=by
 have sc:=Lx;refine F.ok sc (fun vs H Q E h=>?_) (fun cdv A outer s H vs Q E hr h=>?_)
 ·obtain⟨_,_,_,_,rfl,_⟩:=h
  rfl
 obtain⟨p,t,l,x,rfl,hp,hc,hg,hl,q⟩:=h;obtain rfl:=QG (κ:=A8.mk Ac Ag Ah Am Au Bb Ba At) (IE L) hc;unfold hT at q;exact⟨_,(Ao (Be Eg)),q⟩
theorem Np:Bd ["self", "loss"] ["self", "loss"] (As Fq):=⟨rfl,rfl,rfl,by decide +kernel,rfl,by decide +kernel,by decide +kernel⟩
theorem Oi {f:Addr} {fd:zCG} (F:Fun K "holds" "CauseIs.holds" Fq f fd) (T:Txt K mg) (L:Kl K mg Ac Ag Ah Am Au Bb Ba At Ad Aw Ak Aj Bg Ai Az Aq) {m:Nat}:FnOk P w K mg base Da 1 f fd ["self", "loss"] (Ds (A8.mk Ac Ag Ah Am Au Bb Ba At) m Ag):=by
 have sc:=Np;refine F.ok sc (fun vs H Q E h=>?_) (fun cdv A outer s H vs Q E hr h=>?_)
 ·obtain⟨_,_,_,_,rfl,_⟩:=h
  rfl
 obtain⟨p,t,l,x,rfl,hp,hc,hg,⟨ev,n,ht⟩,q⟩:=h;obtain⟨nm,rfl⟩:=QC (κ:=A8.mk Ac Ag Ah Am Au Bb Ba At) (IE L) hc;unfold hT at q;unfold CdAt at hp;obtain⟨_,dx,e,hp⟩:=hp;cases e;refine⟨_,(Ao (Be (Ga Di (Bh Bq (pv 1) (Dm T.g_CAUSE rfl) (fun _ _=>rfl)) (Cp (pv 0) rfl) (Bm _)))),?_⟩;exact (vE rfl (vI rfl rfl (SqT.of ht) rfl (vE rfl ⟨p,_,dx,_,_,rfl,hp,L.cl_CauseIs,L.na_CauseIs_name,AZ nm,rfl,q⟩)))
theorem Ob:Bd ["self", "loss"] ["self", "loss"] (As Fn):=⟨rfl,rfl,rfl,by decide +kernel,rfl,by decide +kernel,by decide +kernel⟩
theorem Oa {f:Addr} {fd:zCG} (F:Fun K "holds" "ThingIs.holds" Fn f fd) (T:Txt K mg) (L:Kl K mg Ac Ag Ah Am Au Bb Ba At Ad Aw Ak Aj Bg Ai Az Aq) {m:Nat}:FnOk P w K mg base Da 1 f fd ["self", "loss"] (Ds (A8.mk Ac Ag Ah Am Au Bb Ba At) m Ah):=by
 have sc:=Ob;refine F.ok sc (fun vs H Q E h=>?_) (fun cdv A outer s H vs Q E hr h=>?_)
 ·obtain⟨_,_,_,_,rfl,_⟩:=h
  rfl
 obtain⟨p,t,l,x,rfl,hp,hc,hg,⟨ev,n,ht⟩,q⟩:=h;obtain⟨nm,rfl⟩:=QF (κ:=A8.mk Ac Ag Ah Am Au Bb Ba At) (IE L) hc;unfold hT at q;unfold CdAt at hp;obtain⟨_,dx,e,hp⟩:=hp;cases e;refine⟨_,(Ao (Be (Ga Di (Bh Bq (pv 1) (Dm T.g_THING rfl) (fun _ _=>rfl)) (Cp (pv 0) rfl) (Bm _)))),?_⟩;exact (vE rfl (vI rfl rfl (SqT.of ht) rfl (vE rfl ⟨p,_,dx,_,_,rfl,hp,L.cl_ThingIs,L.na_ThingIs_name,AU nm,rfl,q⟩)))
theorem Pu:Bd ["self", "loss"] ["self", "loss"] (As Gs):=⟨rfl,rfl,rfl,by decide +kernel,rfl,by decide +kernel,by decide +kernel⟩
theorem Pk {f:Addr} {fd:zCG} (F:Fun K "holds" "DaysIn.holds" Gs f fd) (T:Txt K mg) (L:Kl K mg Ac Ag Ah Am Au Bb Ba At Ad Aw Ak Aj Bg Ai Az Aq) {m:Nat}:FnOk P w K mg base Da 1 f fd ["self", "loss"] (Ds (A8.mk Ac Ag Ah Am Au Bb Ba At) m Am):=by
 have sc:=Pu;refine F.ok sc (fun vs H Q E h=>?_) (fun cdv A outer s H vs Q E hr h=>?_)
 ·obtain⟨_,_,_,_,rfl,_⟩:=h
  rfl
 obtain⟨p,t,l,x,rfl,hp,hc,hg,⟨ev,n,ht⟩,q⟩:=h;obtain⟨a,b,rfl⟩:=QB (κ:=A8.mk Ac Ag Ah Am Au Bb Ba At) (IE L) hc;unfold hT at q;unfold CdAt at hp;obtain⟨_,dx,e,hp⟩:=hp;cases e;refine⟨_,(Ao (Be (Sr Oz Oz (Cp (pv 0) rfl) (Bh Bq (pv 1) (Dm T.g_DAY rfl) (fun _ _=>rfl)) (Cp (pv 0) rfl)))),?_⟩;have q':Q (.bl (decide (a<=x.d)&&decide (x.d<=b))) H:=q;refine (vE rfl ⟨p,_,dx,_,_,rfl,hp,L.cl_DaysIn,L.na_DaysIn_first,DL a b,_,rfl,vI rfl rfl (SqT.of ht) rfl (vF rfl rfl (vE rfl (Ss (fun e=>?_) (fun e=>?_))))⟩)
 ·rw[e,Bool.true_and] at q'
  exact (vE rfl ⟨p,_,dx,_,_,rfl,hp,L.cl_DaysIn,L.na_DaysIn_last,GM a b,_,_,rfl,rfl,q'⟩)
 ·rw[zBf.mpr e,zCs] at q'
  exact q'
theorem Ut:Bd ["self", "loss"] ["self", "loss"] (As Ie):=⟨rfl,rfl,rfl,by decide +kernel,rfl,by decide +kernel,by decide +kernel⟩
theorem Tz {f:Addr} {fd:zCG} (F:Fun K "holds" "Over.holds" Ie f fd) (T:Txt K mg) (L:Kl K mg Ac Ag Ah Am Au Bb Ba At Ad Aw Ak Aj Bg Ai Az Aq) {m:Nat}:FnOk P w K mg base Da 1 f fd ["self", "loss"] (Ds (A8.mk Ac Ag Ah Am Au Bb Ba At) m Au):=by
 have sc:=Ut;refine F.ok sc (fun vs H Q E h=>?_) (fun cdv A outer s H vs Q E hr h=>?_)
 ·obtain⟨_,_,_,_,rfl,_⟩:=h
  rfl
 obtain⟨p,t,l,x,rfl,hp,hc,hg,⟨ev,n,ht⟩,q⟩:=h;obtain⟨c,rfl⟩:=QA (κ:=A8.mk Ac Ag Ah Am Au Bb Ba At) (IE L) hc;unfold hT at q;unfold CdAt at hp;obtain⟨_,dx,e,hp⟩:=hp;cases e;refine⟨_,(Ao (Be (Ga Vt (Bh Bq (pv 1) (Dm T.g_CENTS rfl) (fun _ _=>rfl)) (Cp (pv 0) rfl) (Bm _)))),?_⟩;exact (vE rfl (vI rfl rfl (SqT.of ht) rfl (vE rfl ⟨p,_,dx,_,_,rfl,hp,L.cl_Over,L.na_Over_cents,EG c,_,_,rfl,rfl,q⟩)))
theorem Xq:Bd ["self", "loss"] ["self", "loss"] (As Jk):=⟨rfl,rfl,rfl,by decide +kernel,rfl,by decide +kernel,by decide +kernel⟩
theorem We {f:Addr} {fd:zCG} (F:Fun K "holds" "Not.holds" Jk f fd) (L:Kl K mg Ac Ag Ah Am Au Bb Ba At Ad Aw Ak Aj Bg Ai Az Aq) {m:Nat} (Mholds:Ph P w K mg base m (A8.Fam (A8.mk Ac Ag Ah Am Au Bb Ba At)) "holds" ["self", "loss"] (Ds (A8.mk Ac Ag Ah Am Au Bb Ba At) m)):FnOk P w K mg base Da (m+1) f fd ["self", "loss"] (Ds (A8.mk Ac Ag Ah Am Au Bb Ba At) (m+1) Bb):=by
 have sc:=Xq;refine F.ok sc (fun vs H Q E h=>?_) (fun cdv A outer s H vs Q E hr h=>?_)
 ·obtain⟨_,_,_,_,rfl,_⟩:=h
  rfl
 obtain⟨p,t,l,x,rfl,hp,hc,hg,hl,q⟩:=h;obtain⟨u,rfl⟩:=PP (κ:=A8.mk Ac Ag Ah Am Au Bb Ba At) (IE L) hc;unfold hT at q;unfold Ow at hg;unfold CdAt at hp;obtain⟨_,dx,v,e,hp,hu⟩:=hp;cases e;obtain⟨pu,du,fu,rfl,eu,n1,_⟩:=hu.obj;refine⟨_,(Ao (Be (G8 (Gi Mholds (hr.mono (by lia)) (Cp (pv 0) rfl) (Aa (pv 1) Af))))),?_⟩;refine (vE rfl ⟨p,_,dx,_,_,rfl,hp,L.cl_Not,L.na_Not_part,F2 _ _,pu,_,du,fu,rfl,eu,A8.fam _ u,n1,_,rfl,pu,u,l,x,rfl,hu,rfl,by lia,hl,?_⟩);exact (vE rfl q)
theorem Wc:Bd ["self", "loss", "part"] ["self", "loss"] (As Jv):=⟨rfl,rfl,rfl,by decide +kernel,rfl,by decide +kernel,by decide +kernel⟩
theorem Yq {f:Addr} {fd:zCG} (F:Fun K "holds" "All.holds" Jv f fd) (L:Kl K mg Ac Ag Ah Am Au Bb Ba At Ad Aw Ak Aj Bg Ai Az Aq) {m:Nat} (Mholds:Ph P w K mg base m (A8.Fam (A8.mk Ac Ag Ah Am Au Bb Ba At)) "holds" ["self", "loss"] (Ds (A8.mk Ac Ag Ah Am Au Bb Ba At) m)):FnOk P w K mg base Da (m+1) f fd ["self", "loss"] (Ds (A8.mk Ac Ag Ah Am Au Bb Ba At) (m+1) Ba):=by
 have sc:=Wc;refine F.ok sc (fun vs H Q E h=>?_) (fun cdv A outer s H vs Q E hr h=>?_)
 ·obtain⟨_,_,_,_,rfl,_⟩:=h
  rfl
 obtain⟨p,t,l,x,rfl,hp,hc,hg,hl,q⟩:=h;obtain⟨ts,rfl⟩:=PX (κ:=A8.mk Ac Ag Ah Am Au Bb Ba At) (IE L) hc;unfold hT at q;unfold Ow at hg;unfold CdAt at hp;obtain⟨_,dx,a,vs,e,hp,ha,hv⟩:=hp;cases e;refine⟨_,(Ae (Ck PassesOwn.never rfl (Bt (Cp (pv 0) rfl)) (Ay (i:=2) sc.nd rfl (Or.inl rfl))
    (Ao (Bw (Dc (Cn (Gi Mholds (hr.mono (by lia)) (pv 2) (Aa (pv 1) Af))))
    (Ao (Be Eg))
    Bl)))
   (Ao (Be Eg))),?_⟩
 have hlen:=hv.len;refine (vE rfl ⟨p,_,dx,_,_,rfl,hp,L.cl_All,L.na_All_several,F2 _ _,a,rfl,⟨_,SqL.of ha⟩,?_⟩);refine Db (K:=K) (a:=a) (xs:=vs) (fun i σ H2=>(∃ o,σ=[some (.ref p),some (.ref l),o])/\H2=H/\hAll ts x=hAll (ts.drop i) x) ⟨⟨none,rfl⟩,rfl,rfl⟩ (fun i σ H2 _ ⟨_,e,_⟩=>by rw[e]; exact SqL.of ha) ?_ ?_
 ·rintro i v σ H2 hi ⟨⟨o,rfl⟩,rfl,e⟩
  obtain⟨u,eu,hu⟩:=hv.get hi;rw[AG eu] at e;obtain⟨pu,du,fu,rfl,ob,n1,_⟩:=hu.obj;refine (vE rfl ⟨pu,_,du,fu,rfl,ob,A8.fam _ u,n1,_,rfl,pu,u,l,x,rfl,hu,rfl,Qb (by lia) i eu,hl,?_⟩);cases hb:hT u x with
  | true=>
   rw[hb,Bool.true_and] at e;exact (vE rfl (Dq ⟨⟨_,rfl⟩,rfl,e⟩))
  | false=>
   rw[hb,zCs] at e;rw[e] at q;exact (vE rfl (Kn q))
 ·rintro σ H2 ⟨⟨o,rfl⟩,rfl,e⟩
  rw[hlen,zBz] at e;rw[e] at q;unfold hAll at q;exact q
theorem Ub:Bd ["self", "loss", "part"] ["self", "loss"] (As Im):=⟨rfl,rfl,rfl,by decide +kernel,rfl,by decide +kernel,by decide +kernel⟩
theorem Uk {f:Addr} {fd:zCG} (F:Fun K "holds" "Some.holds" Im f fd) (L:Kl K mg Ac Ag Ah Am Au Bb Ba At Ad Aw Ak Aj Bg Ai Az Aq) {m:Nat} (Mholds:Ph P w K mg base m (A8.Fam (A8.mk Ac Ag Ah Am Au Bb Ba At)) "holds" ["self", "loss"] (Ds (A8.mk Ac Ag Ah Am Au Bb Ba At) m)):FnOk P w K mg base Da (m+1) f fd ["self", "loss"] (Ds (A8.mk Ac Ag Ah Am Au Bb Ba At) (m+1) At):=by
 have sc:=Ub;refine F.ok sc (fun vs H Q E h=>?_) (fun cdv A outer s H vs Q E hr h=>?_)
 ·obtain⟨_,_,_,_,rfl,_⟩:=h
  rfl
 obtain⟨p,t,l,x,rfl,hp,hc,hg,hl,q⟩:=h;obtain⟨ts,rfl⟩:=PZ (κ:=A8.mk Ac Ag Ah Am Au Bb Ba At) (IE L) hc;unfold hT at q;unfold Ow at hg;unfold CdAt at hp;obtain⟨_,dx,a,vs,e,hp,ha,hv⟩:=hp;cases e;refine⟨_,(Ae (Ck PassesOwn.never rfl (Bt (Cp (pv 0) rfl)) (Ay (i:=2) sc.nd rfl (Or.inl rfl))
    (Ao (Bw (Cn (Gi Mholds (hr.mono (by lia)) (pv 2) (Aa (pv 1) Af)))
    (Ao (Be Eg))
    Bl)))
   (Ao (Be Eg))),?_⟩
 have hlen:=hv.len;refine (vE rfl ⟨p,_,dx,_,_,rfl,hp,L.cl_Some,L.na_Some_several,F2 _ _,a,rfl,⟨_,SqL.of ha⟩,?_⟩);refine Db (K:=K) (a:=a) (xs:=vs) (fun i σ H2=>(∃ o,σ=[some (.ref p),some (.ref l),o])/\H2=H/\hSom ts x=hSom (ts.drop i) x) ⟨⟨none,rfl⟩,rfl,rfl⟩ (fun i σ H2 _ ⟨_,e,_⟩=>by rw[e]; exact SqL.of ha) ?_ ?_
 ·rintro i v σ H2 hi ⟨⟨o,rfl⟩,rfl,e⟩
  obtain⟨u,eu,hu⟩:=hv.get hi;rw[W2 eu] at e;obtain⟨pu,du,fu,rfl,ob,n1,_⟩:=hu.obj;refine (vE rfl ⟨pu,_,du,fu,rfl,ob,A8.fam _ u,n1,_,rfl,pu,u,l,x,rfl,hu,rfl,Qb (by lia) i eu,hl,?_⟩);cases hb:hT u x with
  | false=>
   rw[hb,Bool.false_or] at e;exact (vE rfl (Dq ⟨⟨_,rfl⟩,rfl,e⟩))
  | true=>
   rw[hb,Bool.true_or] at e;rw[e] at q;exact (vE rfl (Kn q))
 ·rintro σ H2 ⟨⟨o,rfl⟩,rfl,e⟩
  rw[hlen,zBz] at e;rw[e] at q;unfold hSom at q;exact q
end
inductive Cl where
 | own (y:Str) (d:Int) | lay (y:Str) (a b:Int) | lim (y:Str) (m:Int) | any (y:Str)
def Cl.way:Cl->Str
 | .own y _=>y
 | .lay y _ _=>y
 | .lim y _=>y
 | .any y=>y
def Gz:Cl->List (Str×V)
 | .own y d=>Bs "cents" (.int d) (Bs "by" (.str y) [])
 | .lay y a b=>Bs "upto" (.int b) (Bs "first" (.int a) (Bs "by" (.str y) []))
 | .lim y m=>Bs "most" (.int m) (Bs "by" (.str y) [])
 | .any y=>Bs "by" (.str y) []
def Qo (y:Str):Prop:=y = "event" \/ y = "thing" \/ y = "year" \/ y = "loss"
def KZ (d:Int):Prop:=0<=d/\d<=999999999999
def Hs (CC CO CL CM:Addr):Cl->Addr
 | .own _ _=>CO
 | .lay _ _ _=>CL
 | .lim _ _=>CM
 | .any _=>CC
def ClAt (CC CO CL CM:Addr) (H:Hp) (p:Addr) (c:Cl):Prop:=∃ dx,H p=some (.ins (Hs CC CO CL CM c) dx (Gz c))
def Fam (CC CO CL CM:Addr) (C:Addr):Prop:=C=CC\/C=CO\/C=CL\/C=CM
theorem ClAt.same {CC CO CL CM:Addr} {H H':Hp} {p:Addr} {c:Cl} (h:ClAt CC CO CL CM H p c) (s:Same H H'):ClAt CC CO CL CM H' p c:=by
 obtain⟨dx,e⟩:=h;exact⟨dx,s _ _ e⟩
theorem F1 (CC CO CL CM:Addr) (c:Cl):Fam CC CO CL CM (Hs CC CO CL CM c):=by
 cases c with
 | own _ _=>exact .inr (.inl rfl)
 | lay _ _ _=>exact .inr (.inr (.inl rfl))
 | lim _ _=>exact .inr (.inr (.inr rfl))
 | any _=>exact .inl rfl
theorem JS {y:Str} (h:Qo y):E5 (.str y) [.str "event",.str "thing",.str "year",.str "loss"]=true:=by
 rcases h with rfl | rfl | rfl | rfl <;> decide +kernel
theorem OD:¬ (("by" : Str) = "cents"):=by decide +kernel
theorem OS:¬ (("by" : Str) = "upto"):=by decide +kernel
theorem NL:¬ (("by" : Str) = "first"):=by decide +kernel
theorem NH:¬ (("by" : Str) = "most"):=by decide +kernel
theorem NN:¬ (("first" : Str) = "upto"):=by decide +kernel
theorem EK (c:Cl):(Gz c).lookup ("by" : Str)=some (.str c.way):=by
 cases c with
 | own y d=>unfold Gz; rw[Bi,if_neg OD,Bi,if_pos rfl]; rfl
 | lay y a b=>unfold Gz; rw[Bi,if_neg OS,Bi,if_neg NL,Bi,if_pos rfl]; rfl
 | lim y m=>unfold Gz; rw[Bi,if_neg NH,Bi,if_pos rfl]; rfl
 | any y=>unfold Gz; rw[Bi,if_pos rfl]; rfl
theorem BJ (y:Str) (d:Int):(Gz (.own y d)).lookup ("cents" : Str)=some (.int d):=by unfold Gz; rw[Bi,if_pos rfl]
theorem GZ (y:Str) (a b:Int):(Gz (.lay y a b)).lookup ("upto" : Str)=some (.int b):=by unfold Gz; rw[Bi,if_pos rfl]
theorem BK (y:Str) (a b:Int):(Gz (.lay y a b)).lookup ("first" : Str)=some (.int a):=by unfold Gz; rw[Bi,if_neg NN,Bi,if_pos rfl]
theorem GO (y:Str) (m:Int):(Gz (.lim y m)).lookup ("most" : Str)=some (.int m):=by unfold Gz; rw[Bi,if_pos rfl]
theorem DZ (c:Cl) {m:Str} (h1:¬ m = "by") (h2:¬ m = "cents") (h3:¬ m = "first") (h4:¬ m = "upto") (h5:¬ m = "most"):(Gz c).lookup m=none:=by
 cases c with
 | own y d=>unfold Gz; rw[Bi,if_neg h2,Bi,if_neg h1]; rfl
 | lay y a b=>unfold Gz; rw[Bi,if_neg h4,Bi,if_neg h3,Bi,if_neg h1]; rfl
 | lim y n=>unfold Gz; rw[Bi,if_neg h5,Bi,if_neg h1]; rfl
 | any y=>unfold Gz; rw[Bi,if_neg h1]; rfl
theorem FU (c:Cl):(Gz c).lookup ("span" : Str)=none:=DZ c (by decide +kernel) (by decide +kernel) (by decide +kernel) (by decide +kernel) (by decide +kernel)
theorem FH (c:Cl):(Gz c).lookup ("room" : Str)=none:=DZ c (by decide +kernel) (by decide +kernel) (by decide +kernel) (by decide +kernel) (by decide +kernel)
def O9 (b n k:Int):Int:=CR.minI (CR.maxI (b-n) 0) k
def LN:Cl->Int->Int->Int
 | .own _ d,n,k=>O9 d n k
 | .lay _ a _,n,k=>O9 a n k
 | _,_,_=>0
def LR:Cl->Int->Int->Int
 | .lay _ _ b,n,k=>O9 b n k
 | _,_,k=>k
def Rr:Cl->Int->V
 | .lim _ m,n=>.int (CR.maxI (m-n) 0)
 | _,_=>.non
def Zk:Sp:=fun vs H Q _=>∃ n:Int,vs=[.int n]/\KZ n/\Q (.int n) H
def Xu:Sp:=fun vs H Q _=>∃ b n k:Int,vs=[.int b,.int n,.int k]/\Q (.int (O9 b n k)) H
def CG (CC CO CL CM:Addr):Sp:=fun vs H Q _=>∃ p C dx fs y,vs=[.ref p,.str y]/\H p=some (.ins C dx fs)/\Fam CC CO CL CM C/\fs.length<1000/\Qo y/\Q .non (upd H p (.ins C dx (Bs "by" (.str y) fs)))
def CF (CC CO CL CM:Addr):Sp:=fun vs H Q _=>∃ p dx y,∃ d:Int,vs=[.ref p,.str y,.int d]/\H p=some (.ins CO dx [])/\Qo y/\KZ d/\∀ H',(∀ b o,H b=some o->b≠p->H' b=some o)->ClAt CC CO CL CM H' p (.own y d)->Q .non H'
def BY (CC CO CL CM:Addr):Sp:=fun vs H Q _=>∃ p dx y,∃ a b:Int,vs=[.ref p,.str y,.int a,.int b]/\H p=some (.ins CL dx [])/\Qo y/\KZ a/\KZ b/\a<b/\∀ H',(∀ b o,H b=some o->b≠p->H' b=some o)->ClAt CC CO CL CM H' p (.lay y a b)->Q .non H'
def DE (CC CO CL CM:Addr):Sp:=fun vs H Q _=>∃ p dx y,∃ d:Int,vs=[.ref p,.str y,.int d]/\H p=some (.ins CM dx [])/\Qo y/\KZ d/\∀ H',(∀ b o,H b=some o->b≠p->H' b=some o)->ClAt CC CO CL CM H' p (.lim y d)->Q .non H'
def Sm (CC CO CL CM:Addr) (C:Addr):Sp:=fun vs H Q _=>∃ p c,∃ n k:Int,vs=[.ref p,.int n,.int k]/\ClAt CC CO CL CM H p c/\Hs CC CO CL CM c=C/\∀ t H',Same H H'->H' t=some (.tup [.int (LN c n k),.int (LR c n k)])->Q (.ref t) H'
def Xt (CC CO CL CM:Addr) (C:Addr):Sp:=fun vs H Q _=>∃ p c,∃ n:Int,vs=[.ref p,.int n]/\ClAt CC CO CL CM H p c/\Hs CC CO CL CM c=C/\Q (Rr c n) H
theorem BL {K:zAa}:zAV K (.type "str") (.type "str")=some true:=by kernel_rfl
section
variable {P:Program} {w:World} {K:zAa} {mg:Str->Option Value} {base:Heap} {Ac Ag Ah Am Au Bb Ba At Ad Aw Ak Aj Bg Ai Az Aq:Addr}
theorem U6 (L:Kl K mg Ac Ag Ah Am Au Bb Ba At Ad Aw Ak Aj Bg Ai Az Aq) {c:Cl} (h:Hs Ad Aw Ak Aj c=Ad):∃ y,c = .any y:=by
 have nd:([Ad,Aw,Ak,Aj,Bg,Ai,Az,Aq]:List Addr).Nodup:=by
  have nd0:=List.Nodup.sublist (zBT 8 _) L.nd;exact nd0
 simp only [zAX,zAn,zBd,not_or,or_false] at nd;cases c with
 | any y=>exact⟨y,rfl⟩
 | own _ _=>exact absurd (show Aw=Ad from h).symm nd.1.1
 | lay _ _ _=>exact absurd (show Ak=Ad from h).symm nd.1.2.1
 | lim _ _=>exact absurd (show Aj=Ad from h).symm nd.1.2.2.1
theorem Q6 (L:Kl K mg Ac Ag Ah Am Au Bb Ba At Ad Aw Ak Aj Bg Ai Az Aq) {c:Cl} (h:Hs Ad Aw Ak Aj c=Aw):∃ y d,c = .own y d:=by
 have nd:([Ad,Aw,Ak,Aj,Bg,Ai,Az,Aq]:List Addr).Nodup:=by
  have nd0:=List.Nodup.sublist (zBT 8 _) L.nd;exact nd0
 simp only [zAX,zAn,zBd,not_or,or_false] at nd;cases c with
 | own y d=>exact⟨y,d,rfl⟩
 | any _=>exact absurd (show Ad=Aw from h) nd.1.1
 | lay _ _ _=>exact absurd (show Ak=Aw from h).symm nd.2.1.1
 | lim _ _=>exact absurd (show Aj=Aw from h).symm nd.2.1.2.1
theorem T9 (L:Kl K mg Ac Ag Ah Am Au Bb Ba At Ad Aw Ak Aj Bg Ai Az Aq) {c:Cl} (h:Hs Ad Aw Ak Aj c=Ak):∃ y a b,c = .lay y a b:=by
 have nd:([Ad,Aw,Ak,Aj,Bg,Ai,Az,Aq]:List Addr).Nodup:=by
  have nd0:=List.Nodup.sublist (zBT 8 _) L.nd;exact nd0
 simp only [zAX,zAn,zBd,not_or,or_false] at nd;cases c with
 | lay y a b=>exact⟨y,a,b,rfl⟩
 | any _=>exact absurd (show Ad=Ak from h) nd.1.2.1
 | own _ _=>exact absurd (show Aw=Ak from h) nd.2.1.1
 | lim _ _=>exact absurd (show Aj=Ak from h).symm nd.2.2.1.1
theorem Q7 (L:Kl K mg Ac Ag Ah Am Au Bb Ba At Ad Aw Ak Aj Bg Ai Az Aq) {c:Cl} (h:Hs Ad Aw Ak Aj c=Aj):∃ y m,c = .lim y m:=by
 have nd:([Ad,Aw,Ak,Aj,Bg,Ai,Az,Aq]:List Addr).Nodup:=by
  have nd0:=List.Nodup.sublist (zBT 8 _) L.nd;exact nd0
 simp only [zAX,zAn,zBd,not_or,or_false] at nd;cases c with
 | lim y m=>exact⟨y,m,rfl⟩
 | any _=>exact absurd (show Ad=Aj from h) nd.1.2.2.1
 | own _ _=>exact absurd (show Aw=Aj from h) nd.2.1.2.1
 | lay _ _ _=>exact absurd (show Ak=Aj from h) nd.2.2.1.1
theorem Mw:Bd ["thing"] ["thing"] (As Fd):=⟨rfl,rfl,rfl,by decide +kernel,rfl,by decide +kernel,by decide +kernel⟩
theorem Mz {f:Addr} {fd:zCG} (F:Fun K "checked_amount" "checked_amount" Fd f fd) (T:Txt K mg) (Cis_amount:Cq P w K mg base 2 "is_amount" ["thing"] (BU K 999999999999)):FnOk P w K mg base Da 3 f fd ["thing"] Zk:=by
 have sc:=Mw;refine F.ok sc (fun vs H Q E h=>?_) (fun cdv A outer s H vs Q E hr h=>?_)
 ·obtain⟨_,rfl,_⟩:=h
  rfl
 obtain⟨n,rfl,⟨h0,h1⟩,q⟩:=h;refine⟨_,(Ae (Bw (Dc (Cn (Ax Cis_amount (hr.mono (by decide)) rfl (Aa (pv 0) Af))))
    (Ao Ew)
    Bl)
   (Ao (Be (pv 0)))),?_⟩
 refine (vE rfl ⟨_,_,rfl,.int n,_,rfl,?_⟩);rw[show OZ 999999999999 (.int n)=true from decide_eq_true ⟨h0,h1⟩];exact Dq (vE rfl q)
theorem Lw:Bd ["self", "by"] ["self", "by"] (As Eu):=⟨rfl,rfl,rfl,by decide +kernel,rfl,by decide +kernel,by decide +kernel⟩
theorem Lh {f:Addr} {fd:zCG} (F:Fun K "__init__" "Clause.__init__" Eu f fd) (T:Txt K mg) (L:Kl K mg Ac Ag Ah Am Au Bb Ba At Ad Aw Ak Aj Bg Ai Az Aq):FnOk P w K mg base Da 2 f fd ["self", "by"] (CG Ad Aw Ak Aj):=by
 have sc:=Lw;refine F.ok sc (fun vs H Q E h=>?_) (fun cdv A outer s H vs Q E hr h=>?_)
 ·obtain⟨_,_,_,_,_,rfl,_⟩:=h
  rfl
 obtain⟨p,C,dx,fs,y,rfl,hp,fam,hl,hy,q⟩:=h;refine⟨_,(Ae (Bw (PW.pt (Gv (Dc (Cn (Bn Cy rfl T.n_isinstance (show zCF _=some (.builtin "isinstance") from rfl) (Aa (pv 1) (Aa (Kx "str" rfl T.n_str rfl) Af))))) (Ft (Bj Xc (pv 1) (FE T.t_WAYS rfl) rfl))))
    (Ao Ew)
    Bl)
   (Ao (Ct (pv 0) (pv 1) rfl))),?_⟩
 refine (vE rfl ⟨_,_,_,_,_,rfl,Kw,.str y,BL,_,rfl,Dq ?_⟩);refine (vE rfl (fun a hs=>⟨a,_,rfl,.inr hs,rfl,rfl,vE rfl ?_⟩));show if (!E5 (.str y) [.str "event",.str "thing",.str "year",.str "loss"])=true then _ else _;rw[JS hy];refine Dq ?_;have cl:Cls K C:=by
  rcases fam with rfl | rfl | rfl | rfl
  ·exact L.cl_Clause
  ·exact L.cl_Own
  ·exact L.cl_Layer
  ·exact L.cl_Limit
 have na:NoAttr K C "by" := by
  rcases fam with rfl | rfl | rfl | rfl
  ·exact L.na_Clause_by
  ·exact L.na_Own_by
  ·exact L.na_Layer_by
  ·exact L.na_Limit_by
 exact (vE rfl (vE rfl ⟨p,C,dx,fs,rfl,hp,cl,na,hl,q⟩))
theorem Px:Bd ["self", "by", "cents"] ["self", "by", "cents"] (As Gq):=⟨rfl,rfl,rfl,by decide +kernel,rfl,by decide +kernel,by decide +kernel⟩
theorem Pg {f:Addr} {fd:zCG} (F:Fun K "__init__" "Own.__init__" Gq f fd) (T:Txt K mg) (L:Kl K mg Ac Ag Ah Am Au Bb Ba At Ad Aw Ak Aj Bg Ai Az Aq) (BClause___init__:CK P w K mg base 2 "Clause" "__init__" ["self", "by"] (CG Ad Aw Ak Aj)) (Cchecked_amount:Cq P w K mg base 3 "checked_amount" ["thing"] Zk) :
  FnOk P w K mg base Da 4 f fd ["self", "by", "cents"] (CF Ad Aw Ak Aj):=by
 have sc:=Px;refine F.ok sc (fun vs H Q E h=>?_) (fun cdv A outer s H vs Q E hr h=>?_)
 ·obtain⟨_,_,_,_,rfl,_⟩:=h
  rfl
 obtain⟨p,dx,y,d,rfl,hp,hy,hd,q⟩:=h;refine⟨_,(Ae (Cr (Sa BClause___init__ (hr.mono (by decide)) rfl (Aa (pv 0) (Aa (pv 1) Af))))
   (Ao (Ct (pv 0) (Ax Cchecked_amount (hr.mono (by decide)) rfl (Aa (pv 2) Af)) rfl))),?_⟩
 refine (vE rfl (vE rfl ⟨p,_,dx,[],y,rfl,hp,.inr (.inl rfl),by decide,hy,?_⟩));exact (vE rfl ⟨d,rfl,hd,_,rfl,p,_,dx,_,rfl,Ab,L.cl_Own,L.na_Own_cents,(by show 1<1000; decide),q _ (fun b o z n=>by rw[Ar n,Ar n]; exact z) ⟨dx,Ab⟩⟩)
theorem Md:Bd ["self", "by", "first", "upto"] ["self", "by", "first", "upto"] (As Fe):=⟨rfl,rfl,rfl,by decide +kernel,rfl,by decide +kernel,by decide +kernel⟩
theorem Nd {f:Addr} {fd:zCG} (F:Fun K "__init__" "Layer.__init__" Fe f fd) (T:Txt K mg) (L:Kl K mg Ac Ag Ah Am Au Bb Ba At Ad Aw Ak Aj Bg Ai Az Aq) (BClause___init__:CK P w K mg base 2 "Clause" "__init__" ["self", "by"] (CG Ad Aw Ak Aj)) (Cchecked_amount:Cq P w K mg base 3 "checked_amount" ["thing"] Zk) :
  FnOk P w K mg base Da 4 f fd ["self", "by", "first", "upto"] (BY Ad Aw Ak Aj):=by
 have sc:=Md;refine F.ok sc (fun vs H Q E h=>?_) (fun cdv A outer s H vs Q E hr h=>?_)
 ·obtain⟨_,_,_,_,_,rfl,_⟩:=h
  rfl
 obtain⟨p,dx,y,a,b,rfl,hp,hy,ha,hb,hab,q⟩:=h;refine⟨_,(Ae (Cr (Sa BClause___init__ (hr.mono (by decide)) rfl (Aa (pv 0) (Aa (pv 1) Af))))
   (Ae (Ct (pv 0) (Ax Cchecked_amount (hr.mono (by decide)) rfl (Aa (pv 2) Af)) rfl)
   (Ae (Ct (pv 0) (Ax Cchecked_amount (hr.mono (by decide)) rfl (Aa (pv 3) Af)) rfl)
   (Ao (Bw (Dc (Bj Fk (pv 2) (pv 3) (Bm _)))
    (Ao Ew)
    Bl))))),?_⟩
 refine (vE rfl (vE rfl ⟨p,_,dx,[],y,rfl,hp,.inr (.inr (.inl rfl)),by decide,hy,?_⟩));refine (vE rfl ⟨a,rfl,ha,_,rfl,p,_,dx,_,rfl,Ab,L.cl_Layer,L.na_Layer_first,(by show 1<1000; decide),?_⟩);refine (vE rfl ⟨b,rfl,hb,_,rfl,p,_,dx,_,rfl,Ab,L.cl_Layer,L.na_Layer_upto,(by show 2<1000; decide),?_⟩);refine (vE rfl (vE rfl (vF rfl rfl (vE rfl (nF hab ?_)))));exact q _ (fun b o z n=>by rw[Ar n,Ar n,Ar n]; exact z) ⟨dx,Ab⟩
theorem Mc:Bd ["self", "by", "most"] ["self", "by", "most"] (As Ff):=⟨rfl,rfl,rfl,by decide +kernel,rfl,by decide +kernel,by decide +kernel⟩
theorem Mi {f:Addr} {fd:zCG} (F:Fun K "__init__" "Limit.__init__" Ff f fd) (T:Txt K mg) (L:Kl K mg Ac Ag Ah Am Au Bb Ba At Ad Aw Ak Aj Bg Ai Az Aq) (BClause___init__:CK P w K mg base 2 "Clause" "__init__" ["self", "by"] (CG Ad Aw Ak Aj)) (Cchecked_amount:Cq P w K mg base 3 "checked_amount" ["thing"] Zk) :
  FnOk P w K mg base Da 4 f fd ["self", "by", "most"] (DE Ad Aw Ak Aj):=by
 have sc:=Mc;refine F.ok sc (fun vs H Q E h=>?_) (fun cdv A outer s H vs Q E hr h=>?_)
 ·obtain⟨_,_,_,_,rfl,_⟩:=h
  rfl
 obtain⟨p,dx,y,d,rfl,hp,hy,hd,q⟩:=h;refine⟨_,(Ae (Cr (Sa BClause___init__ (hr.mono (by decide)) rfl (Aa (pv 0) (Aa (pv 1) Af))))
   (Ao (Ct (pv 0) (Ax Cchecked_amount (hr.mono (by decide)) rfl (Aa (pv 2) Af)) rfl))),?_⟩
 refine (vE rfl (vE rfl ⟨p,_,dx,[],y,rfl,hp,.inr (.inr (.inr rfl)),by decide,hy,?_⟩));exact (vE rfl ⟨d,rfl,hd,_,rfl,p,_,dx,_,rfl,Ab,L.cl_Limit,L.na_Limit_most,(by show 1<1000; decide),q _ (fun b o z n=>by rw[Ar n,Ar n]; exact z) ⟨dx,Ab⟩⟩)
def HH (y:Str) (n d:Int) (ev th:Str):V:=if y = "event" then .str ev else if y = "thing" then .str th else if y = "year" then .int (d/365) else .int n
theorem JG (c:Cl):(Gz c).lookup ("key" : Str)=none:=DZ c (by decide +kernel) (by decide +kernel) (by decide +kernel) (by decide +kernel) (by decide +kernel)
def CW (CC CO CL CM:Addr) (C:Addr):Sp:=fun vs H Q _=>∃ p c t ev th ca,∃ n d ct:Int,vs=[.ref p,.ref t]/\ClAt CC CO CL CM H p c/\Hs CC CO CL CM c=C/\H t=some (.tup [.int n,.int d,.str ev,.str th,.str ca,.int ct])/\Q (HH c.way n d ev th) H
def F0:Sp:=fun vs H Q _=>∃ d:Int,vs=[.int d]/\Q (.int (d/365)) H
theorem FI (L:Kl K mg Ac Ag Ah Am Au Bb Ba At Ad Aw Ak Aj Bg Ai Az Aq) (c:Cl):Cls K (Hs Ad Aw Ak Aj c)/\NoAttr K (Hs Ad Aw Ak Aj c) "by" := by
 cases c with
 | own _ _=>exact⟨L.cl_Own,L.na_Own_by⟩
 | lay _ _ _=>exact⟨L.cl_Layer,L.na_Layer_by⟩
 | lim _ _=>exact⟨L.cl_Limit,L.na_Limit_by⟩
 | any _=>exact⟨L.cl_Clause,L.na_Clause_by⟩
theorem L9:Bd ["day"] ["day"] (As Oe):=⟨rfl,rfl,rfl,by decide +kernel,rfl,by decide +kernel,by decide +kernel⟩
theorem G6 {f:Addr} {fd:zCG} (F:Fun K "year_of" "year_of" Oe f fd) (T:Txt K mg):FnOk P w K mg base Da 1 f fd ["day"] F0:=by
 have sc:=L9;refine F.ok sc (fun vs H Q E h=>?_) (fun cdv A outer s H vs Q E hr h=>?_)
 ·obtain⟨_,rfl,_⟩:=h
  rfl
 obtain⟨d,rfl,q⟩:=h;refine⟨_,(Ao (Be (Bc By (pv 0) (Dm T.g_DAYS_OF_YEAR rfl)))),?_⟩;exact (vE rfl (vF rfl rfl ⟨⟨by decide,by decide⟩,q⟩))
theorem Tp:Bd ["self", "loss"] ["self", "loss"] (As Ia):=⟨rfl,rfl,rfl,by decide +kernel,rfl,by decide +kernel,by decide +kernel⟩
theorem Fi {f:Addr} {fd:zCG} (F:Fun K "key" "Clause.key" Ia f fd) (T:Txt K mg) (L:Kl K mg Ac Ag Ah Am Au Bb Ba At Ad Aw Ak Aj Bg Ai Az Aq) (Cyear_of:Cq P w K mg base 1 "year_of" ["day"] F0) {C:Addr}:FnOk P w K mg base Da 2 f fd ["self", "loss"] (CW Ad Aw Ak Aj C):=by
 have sc:=Tp;refine F.ok sc (fun vs H Q E h=>?_) (fun cdv A outer s H vs Q E hr h=>?_)
 ·obtain⟨_,_,_,_,_,_,_,_,_,rfl,_⟩:=h
  rfl
 obtain⟨p,c,t,ev,th,ca,n,d,ct,rfl,⟨dx,hp⟩,hc,ht,q⟩:=h;obtain⟨cl,na⟩:=FI L c;refine⟨_,(Ae (Bw (Bj Di (Cp (pv 0) rfl) Bz (Bm _))
    (Ao (Be (Bh Bq (pv 1) (Dm T.g_EVENT rfl) (fun _ _=>rfl))))
    Bl)
   (Ae (Bw (Bj Di (Cp (pv 0) rfl) Bz (Bm _))
    (Ao (Be (Bh Bq (pv 1) (Dm T.g_THING rfl) (fun _ _=>rfl))))
    Bl)
   (Ae (Bw (Bj Di (Cp (pv 0) rfl) Bz (Bm _))
    (Ao (Be (Ax Cyear_of (hr.mono (by decide)) rfl (Aa (Bh Bq (pv 1) (Dm T.g_DAY rfl) (fun _ _=>rfl)) Af))))
    Bl)
   (Ao (Be (Bh Bq (pv 1) (Dm T.g_NUMBER rfl) (fun _ _=>rfl))))))),?_⟩
 unfold HH at q;refine (vE rfl ⟨p,_,dx,_,_,rfl,hp,cl,na,EK c,rfl,vE rfl (Ss (fun e=>?_) (fun e=>?_))⟩)
 ·have e':c.way = "event" := by injection of_decide_eq_true e
  rw[if_pos e'] at q;exact (vE rfl (vI rfl rfl (SqT.of ht) rfl q))
 ·have e':¬ c.way = "event" := fun z=>e (decide_eq_true (by rw[z]))
  rw[if_neg e'] at q;refine (vE rfl ⟨p,_,dx,_,_,rfl,hp,cl,na,EK c,rfl,vE rfl (Ss (fun f=>?_) (fun f=>?_))⟩)
  ·have f':c.way = "thing" := by injection of_decide_eq_true f
   rw[if_pos f'] at q;exact (vE rfl (vI rfl rfl (SqT.of ht) rfl q))
  ·have f':¬ c.way = "thing" := fun z=>f (decide_eq_true (by rw[z]))
   rw[if_neg f'] at q;refine (vE rfl ⟨p,_,dx,_,_,rfl,hp,cl,na,EK c,rfl,vE rfl (Ss (fun g=>?_) (fun g=>?_))⟩)
   ·have g':c.way = "year" := by injection of_decide_eq_true g
    rw[if_pos g'] at q;exact (vE rfl (vI rfl rfl (SqT.of ht) rfl ⟨d,rfl,q⟩))
   ·have g':¬ c.way = "year" := fun z=>g (decide_eq_true (by rw[z]))
    rw[if_neg g'] at q;exact (vE rfl (vI rfl rfl (SqT.of ht) rfl q))
theorem F6:Bd ["bound", "count", "cents"] ["bound", "count", "cents"] (As Nk):=⟨rfl,rfl,rfl,by decide +kernel,rfl,by decide +kernel,by decide +kernel⟩
theorem M7 {f:Addr} {fd:zCG} (F:Fun K "cent_at" "cent_at" Nk f fd) (T:Txt K mg):FnOk P w K mg base Da 1 f fd ["bound", "count", "cents"] Xu:=by
 have sc:=F6;refine F.ok sc (fun vs H Q E h=>?_) (fun cdv A outer s H vs Q E hr h=>?_)
 ·obtain⟨_,_,_,rfl,_⟩:=h
  rfl
 obtain⟨b,n,k,rfl,q⟩:=h;refine⟨_,(Ao (Be (Bn (Hw rfl) rfl T.n_min (show zCF _=some (.builtin "min") from rfl) (Aa (Bn (Hu rfl) rfl T.n_max (show zCF _=some (.builtin "max") from rfl) (Aa (Bc Lu (pv 0) (pv 1)) (Aa Al Af))) (Aa (pv 2) Af))))),?_⟩;exact (vE rfl (vE rfl (vF rfl rfl ⟨_,_,rfl,vE rfl ⟨_,_,rfl,q⟩⟩)))
theorem Qn:Bd ["self", "count", "cents"] ["self", "count", "cents"] (As Hm):=⟨rfl,rfl,rfl,by decide +kernel,rfl,by decide +kernel,by decide +kernel⟩
theorem Ka {f:Addr} {fd:zCG} (F:Fun K "span" "Clause.span" Hm f fd) (T:Txt K mg) {C:Addr} (hC:∀ c,Hs Ad Aw Ak Aj c=C->∀ n k,LN c n k=0/\LR c n k=k):FnOk P w K mg base Da 2 f fd ["self", "count", "cents"] (Sm Ad Aw Ak Aj C):=by
 have sc:=Qn;refine F.ok sc (fun vs H Q E h=>?_) (fun cdv A outer s H vs Q E hr h=>?_)
 ·obtain⟨_,_,_,_,rfl,_⟩:=h
  rfl
 obtain⟨p,c,n,k,rfl,hp,hc,q⟩:=h;refine⟨_,(Ao (Be (Cd (Aa Al (Aa (pv 2) Af))))),?_⟩;obtain⟨e1,e2⟩:=hC c hc n k;rw[e1,e2] at q;exact (vE rfl ⟨by show 2<=sizeLine; rw[zCE]; decide,fun t ht=>q t _ (An ht _) Ab⟩)
theorem Zo:Bd ["self", "count", "cents"] ["self", "count", "cents"] (As Lk):=⟨rfl,rfl,rfl,by decide +kernel,rfl,by decide +kernel,by decide +kernel⟩
theorem Zf {f:Addr} {fd:zCG} (F:Fun K "span" "Own.span" Lk f fd) (T:Txt K mg) (L:Kl K mg Ac Ag Ah Am Au Bb Ba At Ad Aw Ak Aj Bg Ai Az Aq) (Ccent_at:Cq P w K mg base 1 "cent_at" ["bound", "count", "cents"] Xu):FnOk P w K mg base Da 2 f fd ["self", "count", "cents"] (Sm Ad Aw Ak Aj Aw):=by
 have sc:=Zo;refine F.ok sc (fun vs H Q E h=>?_) (fun cdv A outer s H vs Q E hr h=>?_)
 ·obtain⟨_,_,_,_,rfl,_⟩:=h
  rfl
 obtain⟨p,c,n,k,rfl,⟨dx,hp⟩,hc,q⟩:=h;obtain⟨y,d,rfl⟩:=Q6 L hc;refine⟨_,(Ao (Be (Cd (Aa (Ax Ccent_at (hr.mono (by decide)) rfl (Aa (Cp (pv 0) rfl) (Aa (pv 1) (Aa (pv 2) Af)))) (Aa (pv 2) Af))))),?_⟩;exact (vE rfl ⟨p,_,dx,_,_,rfl,hp,L.cl_Own,L.na_Own_cents,BJ y d,_,rfl,vE rfl ⟨d,n,k,rfl,vE rfl ⟨by show 2<=sizeLine; rw[zCE]; decide,fun t ht=>q t _ (An ht _) Ab⟩⟩⟩)
theorem Ur:Bd ["self", "count", "cents"] ["self", "count", "cents"] (As Ii):=⟨rfl,rfl,rfl,by decide +kernel,rfl,by decide +kernel,by decide +kernel⟩
theorem Uc {f:Addr} {fd:zCG} (F:Fun K "span" "Layer.span" Ii f fd) (T:Txt K mg) (L:Kl K mg Ac Ag Ah Am Au Bb Ba At Ad Aw Ak Aj Bg Ai Az Aq) (Ccent_at:Cq P w K mg base 1 "cent_at" ["bound", "count", "cents"] Xu):FnOk P w K mg base Da 2 f fd ["self", "count", "cents"] (Sm Ad Aw Ak Aj Ak):=by
 have sc:=Ur;refine F.ok sc (fun vs H Q E h=>?_) (fun cdv A outer s H vs Q E hr h=>?_)
 ·obtain⟨_,_,_,_,rfl,_⟩:=h
  rfl
 obtain⟨p,c,n,k,rfl,⟨dx,hp⟩,hc,q⟩:=h;obtain⟨y,a,b,rfl⟩:=T9 L hc;refine⟨_,(Ao (Be (Cd (Aa (Ax Ccent_at (hr.mono (by decide)) rfl (Aa (Cp (pv 0) rfl) (Aa (pv 1) (Aa (pv 2) Af)))) (Aa (Ax Ccent_at (hr.mono (by decide)) rfl (Aa (Cp (pv 0) rfl) (Aa (pv 1) (Aa (pv 2) Af)))) Af))))),?_⟩;exact (vE rfl ⟨p,_,dx,_,_,rfl,hp,L.cl_Layer,L.na_Layer_first,BK y a b,_,rfl,vE rfl ⟨a,n,k,rfl,vE rfl ⟨p,_,dx,_,_,rfl,hp,L.cl_Layer,L.na_Layer_upto,GZ y a b,_,rfl,vE rfl ⟨b,n,k,rfl,by show 2<=sizeLine; rw[zCE]; decide,fun t ht=>q t _ (An ht _) Ab⟩⟩⟩⟩)
theorem Qk:Bd ["self", "paid"] ["self", "paid"] (As Hl):=⟨rfl,rfl,rfl,by decide +kernel,rfl,by decide +kernel,by decide +kernel⟩
theorem Gg {f:Addr} {fd:zCG} (F:Fun K "room" "Clause.room" Hl f fd) (T:Txt K mg) {C:Addr} (hC:∀ c,Hs Ad Aw Ak Aj c=C->∀ n,Rr c n = .non):FnOk P w K mg base Da 1 f fd ["self", "paid"] (Xt Ad Aw Ak Aj C):=by
 have sc:=Qk;refine F.ok sc (fun vs H Q E h=>?_) (fun cdv A outer s H vs Q E hr h=>?_)
 ·obtain⟨_,_,_,rfl,_⟩:=h
  rfl
 obtain⟨p,c,n,rfl,hp,hc,q⟩:=h;refine⟨_,(Ao (Be Gj)),?_⟩;rw[hC c hc n] at q;exact q
theorem Ty:Bd ["self", "paid"] ["self", "paid"] (As Ib):=⟨rfl,rfl,rfl,by decide +kernel,rfl,by decide +kernel,by decide +kernel⟩
theorem Tv {f:Addr} {fd:zCG} (F:Fun K "room" "Limit.room" Ib f fd) (T:Txt K mg) (L:Kl K mg Ac Ag Ah Am Au Bb Ba At Ad Aw Ak Aj Bg Ai Az Aq):FnOk P w K mg base Da 1 f fd ["self", "paid"] (Xt Ad Aw Ak Aj Aj):=by
 have sc:=Ty;refine F.ok sc (fun vs H Q E h=>?_) (fun cdv A outer s H vs Q E hr h=>?_)
 ·obtain⟨_,_,_,rfl,_⟩:=h
  rfl
 obtain⟨p,c,n,rfl,⟨dx,hp⟩,hc,q⟩:=h;obtain⟨y,m,rfl⟩:=Q7 L hc;refine⟨_,(Ao (Be (Bn (Hu rfl) rfl T.n_max (show zCF _=some (.builtin "max") from rfl) (Aa (Bc Lu (Cp (pv 0) rfl) (pv 1)) (Aa Al Af))))),?_⟩;exact (vE rfl ⟨p,_,dx,_,_,rfl,hp,L.cl_Limit,L.na_Limit_most,GO y m,_,rfl,vF rfl rfl ⟨_,_,rfl,q⟩⟩)
end
def Prs (H:Hp):List V->List CR.Rn->Prop
 | [],[]=>True
 | x::xs,p::ps=>(∃ t,x = .ref t/\H t=some (.tup [.int p.1,.int p.2]))/\Prs H xs ps
 | _,_=>False
def LP (H:Hp) (a:Addr) (ps:List CR.Rn):Prop:=∃ xs,H a=some (.lst xs)/\Prs H xs ps
theorem Prs.len {H:Hp}:∀ {xs:List V} {ps:List CR.Rn},Prs H xs ps->xs.length=ps.length
 | [],[],_=>rfl
 | [],_::_,h=>h.elim
 | _::_,[],h=>h.elim
 | x::xs,p::ps,h=>by rw[zAg,zAg,Prs.len h.2]
theorem Prs.mono {H H':Hp} (s:GK H H'):∀ {xs:List V} {ps:List CR.Rn},Prs H xs ps->Prs H' xs ps
 | [],[],_=>trivial
 | [],_::_,h=>h.elim
 | _::_,[],h=>h.elim
 | x::xs,p::ps,⟨⟨t,e,h⟩,r⟩=>⟨⟨t,e,s _ _ h⟩,Prs.mono s r⟩
theorem Prs.get {H:Hp}:∀ {xs:List V} {ps:List CR.Rn} {i:Nat} {x:V},Prs H xs ps->xs[i]?=some x->∃ t p,ps[i]?=some p/\x = .ref t/\H t=some (.tup [.int p.1,.int p.2])
 | [],[],_,_,_,e=>by simp at e
 | [],_::_,_,_,h,_=>h.elim
 | _::_,[],_,_,h,_=>h.elim
 | x::xs,p::ps,0,y,⟨⟨t,e,h⟩,r⟩,q=>by
  simp at q;subst q;exact⟨t,p,rfl,e,h⟩
 | x::xs,p::ps,i+1,y,⟨_,r⟩,q=>by
  obtain⟨t,p',h1,h2⟩:=Prs.get (i:=i) r (by simpa using q);exact⟨t,p',by simpa using h1,h2⟩
theorem Prs.app {H:Hp}:∀ {xs:List V} {ps:List CR.Rn} {ys:List V} {qs:List CR.Rn},Prs H xs ps->Prs H ys qs->Prs H (xs++ys) (ps++qs)
 | [],[],_,_,_,h=>h
 | [],_::_,_,_,h,_=>h.elim
 | _::_,[],_,_,h,_=>h.elim
 | x::xs,p::ps,_,_,⟨h,r⟩,q=>⟨h,Prs.app r q⟩
theorem Prs.one {H:Hp} {t:Addr} {a b:Int} (h:H t=some (.tup [.int a,.int b])):Prs H [.ref t] [(a,b)]:=⟨⟨t,rfl,h⟩,trivial⟩
theorem Prs.snoc {H:Hp} {xs:List V} {ps:List CR.Rn} {t:Addr} {a b:Int} (r:Prs H xs ps) (h:H t=some (.tup [.int a,.int b])):Prs H (xs++[.ref t]) (ps++[(a,b)]):=r.app (Prs.one h)
theorem LP.same {H H':Hp} {a:Addr} {ps:List CR.Rn} (s:Same H H') (h:LP H a ps):LP H' a ps:=by
 obtain⟨xs,h1,r⟩:=h;exact⟨xs,s _ _ h1,r.mono (Bo s)⟩
def P4:Sp:=fun vs H Q _=>∃ a ps,∃ lo hi:Int,vs=[.ref a,.int lo,.int hi]/\LP H a ps/\ps.length<=1000/\∀ r H',Same H H'->H r=none->LP H' r (CR.cutW ps lo hi)->Q (.ref r) H'
def LH:Sp:=fun vs H Q _=>∃ a ps,∃ n:Int,vs=[.ref a,.int n]/\LP H a ps/\ps.length<=1000/\∀ r H',Same H H'->H r=none->LP H' r (CR.lowW ps n)->Q (.ref r) H'
def KK:Sp:=fun vs H Q _=>∃ a ps,vs=[.ref a,.non]/\LP H a ps/\∀ r H',Same H H'->H r=none->LP H' r ps->Q (.ref r) H'
def Ra:Sp:=fun vs H Q E=>LH vs H Q E\/KK vs H Q E
def M6:Sp:=fun vs H Q _=>∃ t b qs,∃ p:CR.Rn,vs=[.ref t,.ref b]/\H t=some (.tup [.int p.1,.int p.2])/\LP H b qs/\qs.length<=1000/\∀ r H',Same H H'->H r=none->LP H' r (CR.leftW p.2 p.1 qs)->Q (.ref r) H'
def AT:Sp:=fun vs H Q _=>∃ a b ps qs,vs=[.ref a,.ref b]/\LP H a ps/\LP H b qs/\ps.length<=1000/\qs.length<=1000/\∀ r H',Same H H'->H r=none->LP H' r (CR.outW ps qs)->Q (.ref r) H'
section
variable {P:Program} {w:World} {K:zAa} {mg:Str->Option Value} {base:Heap}
theorem Um:Bd ["runs", "lo", "hi", "cut"] ["runs", "lo", "hi"] (As Id):=⟨rfl,rfl,rfl,by decide +kernel,rfl,by decide +kernel,by decide +kernel⟩
theorem Tq {f:Addr} {fd:zCG} (F:Fun K "cut_within" "cut_within" Id f fd) (T:Txt K mg):FnOk P w K mg base Da 1 f fd ["runs", "lo", "hi"] P4:=by
 have sc:=Um;refine F.ok sc (fun vs H Q E h=>?_) (fun cdv A outer s H vs Q E hr h=>?_)
 ·obtain⟨_,_,_,_,rfl,_⟩:=h
  rfl
 obtain⟨a,ps,lo,hi,rfl,⟨xs,ha,pr⟩,hl,q⟩:=h;refine⟨_,(Ae (Fa (NC:=["run", "lo", "hi"]) (own:=["run"]) (cs:=["lo", "hi"]) (ix:=[1,2]) (j:=3) sc.nd rfl rfl rfl (CompScope.of rfl) rfl ⟨⟨rfl,.inl rfl,rfl⟩,⟨⟨rfl,.inl rfl,rfl⟩,trivial⟩⟩ (Bt (pv 0)) (fun _ _ _=>(Ay (i:=0) (show (["run", "lo", "hi"]:List Str).Nodup from by decide +kernel) rfl (Or.inl rfl))) (fun _ _ _=>Cu) (fun _ _ _=>(Cd (Aa (Bn (Hu rfl) rfl T.n_max (show zCF _=some (.builtin "max") from rfl) (Aa (Bh (Cs (K:=K) rfl) (pv 0) Al (fun _ _=>rfl)) (Aa (pv 1) Af))) (Aa (Bn (Hw rfl) rfl T.n_min (show zCF _=some (.builtin "min") from rfl) (Aa (Bh (Cs (K:=K) rfl) (pv 0) Al (fun _ _=>rfl)) (Aa (pv 2) Af))) Af)))))
   (Ao (Be (De (NC:=["run"]) (own:=["run"]) (cs:=[]) (ix:=[]) rfl (CompScope.of rfl) rfl trivial (Bt (pv 3)) (fun _ _ _=>(Ay (i:=0) (show (["run"]:List Str).Nodup from by decide +kernel) rfl (Or.inl rfl))) (fun _ _ _=>(Fh (Bj Fk (Bh (Cs (K:=K) rfl) (pv 0) Al (fun _ _=>rfl)) (Bh (Cs (K:=K) rfl) (pv 0) Al (fun _ _=>rfl)) (Bm _)))) (fun _ _ _=>(pv 0)))))),?_⟩
 have lx:=pr.len;refine (vE rfl ⟨a,rfl,⟨_,SqL.of ha⟩,fun c hc=>?_⟩);refine Cb (K:=K) (a:=a) (xs:=xs) (fun i ys H2=>Prs H2 ys ((ps.take i).map (CR.cutM lo hi))/\H2 c=some (.lst ys)/\Same H H2) ⟨trivial,Ab,An hc _⟩
  (fun i ys H2 _ ⟨e,h1,s1⟩=>⟨h1,by rw[e.len,zAb,zAx]; lia,SqL.of (s1 _ _ ha)⟩) (by rw[lx,zCE]; lia) (fun i x ys H2 hi' ⟨e,h1,s1⟩=>?_) (fun ys H2 ⟨e,h1,s1⟩=>?_)
 ·obtain⟨t,p,hp,rfl,ht⟩:=pr.get hi'
  have ht2:=s1 _ _ ht;refine (vE rfl (vI rfl rfl (SqT.of ht2) rfl (vE rfl ⟨_,_,rfl,vE rfl (vI rfl rfl (SqT.of ht2) rfl (vE rfl ⟨_,_,rfl,by show 2<=sizeLine; rw[zCE]; decide,fun u hu=>?_⟩))⟩)));have s2:=An hu (.tup [.int (CR.cutM lo hi p).1,.int (CR.cutM lo hi p).2]);refine⟨s2 _ _ h1,rfl,?_,Ab,fun x o z=>?_⟩
  ·rw[Bu hp,zAq]
   exact ((e.mono (Bo s2)).snoc (a:=(CR.cutM lo hi p).1) (b:=(CR.cutM lo hi p).2) Ab).mono (Dj (s2 _ _ h1) _)
  ·rw[Ar (Ap z hc)]
   exact s2 _ _ (s1 x o z)
 have et:ps.take xs.length=ps:=by rw[lx]; exact zAA
 rw[et] at e;refine (vE rfl ⟨c,rfl,⟨_,SqL.of h1⟩,fun r hr'=>?_⟩);have ly:ys.length=ps.length:=by rw[e.len,zAb]
 refine Cb (K:=K) (a:=c) (xs:=ys) (fun i zs H3=>Prs H3 zs (((ps.map (CR.cutM lo hi)).take i).filter fun p=>decide (p.1<p.2))/\H3 r=some (.lst zs)/\Same H2 H3) ⟨trivial,Ab,An hr' _⟩
  (fun i zs H3 _ ⟨e',h1',s1'⟩=>⟨h1',?_,SqL.of (s1' _ _ h1)⟩) (by rw[ly,zCE]; lia) (fun i x zs H3 hi' ⟨e',h1',s1'⟩=>?_) (fun zs H3 ⟨e',h1',s1'⟩=>?_)
 ·rw[e'.len]
  refine zAG (zAI _ _) ?_;rw[zAx]
  lia
 ·obtain⟨t,p,hp,rfl,ht⟩:=e.get hi'
  have ht3:=s1' _ _ ht;refine (vE rfl (vI rfl rfl (SqT.of ht3) rfl (vE rfl (vI rfl rfl (SqT.of ht3) rfl (vF rfl rfl (vE rfl ?_))))));rw[Bu hp,zBj];refine Ss (fun c'=>?_) (fun c'=>?_)
  ·have c2:p.1<p.2:=of_decide_eq_true c'
   refine (vE rfl ⟨h1',rfl,?_,Ab,fun x o z=>?_⟩)
   ·rw[List.filter_cons,if_pos (decide_eq_true c2),zBP]
    exact (e'.snoc (a:=p.1) (b:=p.2) ht3).mono (Dj h1' _)
   ·rw[Ar (Ap z hr')]
    exact s1' x o z
  ·have c2:¬ p.1<p.2:=of_decide_eq_false (zBf.mpr c')
   rw[List.filter_cons,if_neg (by rw[decide_eq_false c2]; exact zAm),zBP,zAN];exact⟨rfl,e',h1',s1'⟩
 ·have et':(ps.map (CR.cutM lo hi)).take ys.length=ps.map (CR.cutM lo hi):=by rw[ly,<- zAb (f:=CR.cutM lo hi)]; exact zAA
  rw[et'] at e';exact q r H3 (s1.trans s1') (s1.free hr') ⟨zs,h1',e'⟩
theorem Xp:Bd ["runs", "n", "kept", "left", "lo", "hi"] ["runs", "n"] (As Jj):=⟨rfl,rfl,rfl,by decide +kernel,rfl,by decide +kernel,by decide +kernel⟩
theorem Xf {f:Addr} {fd:zCG} (F:Fun K "lowest_of" "lowest_of" Jj f fd) (T:Txt K mg):FnOk P w K mg base Da 1 f fd ["runs", "n"] Ra:=by
 have sc:=Xp;refine F.ok sc (fun vs H Q E h=>?_) (fun cdv A outer s H vs Q E hr h=>?_)
 ·rcases h with ⟨_,_,_,rfl,_⟩ | ⟨_,_,rfl,_⟩ <;> rfl
 refine⟨_,(Ae (Bw (Bj Qu (pv 1) Gj (Bm _))
    (Ao (Be (Ep Dp rfl T.n_list (show zCF _=some (.type "list") from rfl) (Aa (pv 0) Af))))
    Bl)
   (Ae (Bf (i:=2) sc.nd rfl (Or.inl rfl) (Ci Af))
   (Ae (Bf (i:=3) sc.nd rfl (Or.inl rfl) (pv 1))
   (Ae (Ck PassesOwn.never rfl (Bt (pv 0)) (Ea (n:=2) rfl (Bk (Ay (i:=4) sc.nd rfl (Or.inl rfl)) (Bk (Ay (i:=5) sc.nd rfl (Or.inl rfl)) Dh)))
    (Ae (Bw (Bj Vt (pv 3) Al (Bm _))
    (Ao (Cr (Gk PySem.F.plainAttrs_list PySem.F.slot_list_append PySem.F.type_list_append Do (pv 2) (Aa (Cd (Aa (pv 4) (Aa (Bn (Hw rfl) rfl T.n_min (show zCF _=some (.builtin "min") from rfl) (Aa (pv 5) (Aa (Bc Cm (pv 4) (pv 3)) Af))) Af))) Af))))
    Bl)
   (Ao (Bf (i:=3) sc.nd rfl (Or.inl rfl) (Bc Lu (pv 3) (Bc Lu (pv 5) (pv 4)))))))
   (Ao (Be (pv 2))))))),?_⟩
 rcases h with ⟨a,ps,n,rfl,⟨xs,ha,pr⟩,hl,q⟩ | ⟨a,ps,rfl,⟨xs,ha,pr⟩,q⟩
 ·have lx:=pr.len
  refine (vE rfl ⟨rfl,vE rfl (dF (fun z=>nomatch z) ?_)⟩);refine⟨zAD _,fun r hr'=>?_⟩;have s1:Same H (upd H r (.lst [])):=An hr' _;refine (vE rfl ?_);refine⟨_,rfl,a,rfl,⟨_,SqL.of (s1 _ _ ha)⟩,Db (K:=K) (a:=a) (xs:=xs)
   (fun i σ H2=>(∃ o1 o2 ys,∃ left:Int,σ=[some (.ref a),some (.int n),some (.ref r),some (.int left),o1,o2]/\H2 r=some (.lst ys)/\ys.length<=i/\∃ ks,Prs H2 ys ks/\CR.lowW ps n=ks++CR.lowW (ps.drop i) left)/\Same H H2)
   ⟨⟨none,none,[],n,rfl,Ab,zAl _,[],trivial,rfl⟩,s1⟩ (fun i σ H2 _ ⟨_,e⟩=>SqL.of (e _ _ ha)) ?_ ?_⟩
  ·rintro i x σ H2 hi ⟨⟨o1,o2,ys,left,rfl,h1,ly,ks,pk,ek⟩,s2⟩
   obtain⟨t,p,hp,rfl,ht⟩:=pr.get hi;have ht2:=s2 _ _ ht;have hix:i<ps.length:=(zAi.mp hp).1;have ed:ps.drop i=p::ps.drop (i+1):=by
    rw[zBu hix]
    congr 1
    exact (zAi.mp hp).2
   rw[ed,CR.lowW_cons] at ek;refine⟨t,_,rfl,SqT.of ht2,rfl,vC rfl (vC rfl (⟨rfl,?_⟩))⟩;refine (vE rfl (vF rfl rfl (vE rfl (Ss (fun c=>?_) (fun c=>?_)))))
   ·have c':0<left:=of_decide_eq_true c
    rw[if_pos c'] at ek;refine (vE rfl ⟨.inl ⟨rfl,_,SqL.of h1⟩,vE rfl (vE rfl (vE rfl (vE rfl (vF rfl rfl ⟨_,_,rfl,by show 2<=sizeLine; rw[zCE]; decide,fun u hu=>?_⟩))))⟩);have s3:=An hu (.tup [.int p.1,.int (if p.1+left<p.2 then p.1+left else p.2)]);refine⟨r,_,_,rfl,rfl,s3 _ _ h1,by rw[zCE]; lia,?_⟩;refine (vE rfl (vE rfl (vE rfl (vF rfl rfl (vF rfl rfl ⟨⟨_,_,_,_,rfl,Ab,by rw[zAo]; exact Nat.add_le_add ly (zAl 1),_,((pk.mono (Bo s3)).snoc Ab).mono (Dj (s3 _ _ h1) _),?_⟩,fun x o z=>?_⟩)))))
    ·rw[ek,zBE]
    ·rw[Ar (Ap z hr')]
     exact s3 _ _ (s2 x o z)
   ·have c':¬ 0<left:=of_decide_eq_false (zBf.mpr c)
    rw[if_neg c'] at ek;refine (vE rfl (vE rfl (vE rfl (vF rfl rfl (vF rfl rfl ⟨⟨_,_,_,_,rfl,h1,by lia,_,pk,?_⟩,s2⟩)))));rw[ek];rfl
  ·rintro σ H2 ⟨⟨o1,o2,ys,left,rfl,h1,ly,ks,pk,ek⟩,s2⟩
   refine (vE rfl (q r H2 s2 hr' ⟨ys,h1,?_⟩));rw[lx,zBz] at ek;rw[ek,CR.lowW_nil,zAN];exact pk
 ·refine (vE rfl ⟨rfl,vE rfl (dT rfl ?_)⟩)
  refine (vE rfl ⟨a,_,rfl,.inl (SqL.of ha),fun r hr'=>?_⟩);have s1:=An hr' (.lst xs);exact q r _ s1 hr' ⟨xs,Ab,pr.mono (Bo s1)⟩
theorem Qr:Bd ["run", "others", "left", "begin", "lo", "hi", "end"] ["run", "others"] (As Hc):=⟨rfl,rfl,rfl,by decide +kernel,rfl,by decide +kernel,by decide +kernel⟩
theorem Qt {f:Addr} {fd:zCG} (F:Fun K "left_of_run" "left_of_run" Hc f fd) (T:Txt K mg):FnOk P w K mg base Da 1 f fd ["run", "others"] M6:=by
 have sc:=Qr;refine F.ok sc (fun vs H Q E h=>?_) (fun cdv A outer s H vs Q E hr h=>?_)
 ·obtain⟨_,_,_,_,rfl,_⟩:=h
  rfl
 obtain⟨t0,b,qs,p,rfl,ht0,⟨xs,hb,pr⟩,hl,q⟩:=h;refine⟨_,(Ae (Bf (i:=2) sc.nd rfl (Or.inl rfl) (Ci Af))
   (Ae (Bf (i:=3) sc.nd rfl (Or.inl rfl) (Bh Bq (pv 0) Al (fun _ _=>rfl)))
   (Ae (Ck PassesOwn.never rfl (Bt (pv 1)) (Ea (n:=2) rfl (Bk (Ay (i:=4) sc.nd rfl (Or.inl rfl)) (Bk (Ay (i:=5) sc.nd rfl (Or.inl rfl)) Dh)))
    (Ae (Bf (i:=6) sc.nd rfl (Or.inl rfl) (Bn (Hw rfl) rfl T.n_min (show zCF _=some (.builtin "min") from rfl) (Aa (pv 4) (Aa (Bh Bq (pv 0) Al (fun _ _=>rfl)) Af))))
   (Ae (Bw (Bj Fk (pv 3) (pv 6) (Bm _))
    (Ao (Cr (Gk PySem.F.plainAttrs_list PySem.F.slot_list_append PySem.F.type_list_append Do (pv 2) (Aa (Cd (Aa (pv 3) (Aa (pv 6) Af))) Af))))
    Bl)
   (Ao (Bf (i:=3) sc.nd rfl (Or.inl rfl) (Bn (Hu rfl) rfl T.n_max (show zCF _=some (.builtin "max") from rfl) (Aa (pv 3) (Aa (pv 5) Af))))))))
   (Ae (Bw (Bj Fk (pv 3) (Bh Bq (pv 0) Al (fun _ _=>rfl)) (Bm _))
    (Ao (Cr (Gk PySem.F.plainAttrs_list PySem.F.slot_list_append PySem.F.type_list_append Do (pv 2) (Aa (Cd (Aa (pv 3) (Aa (Bh Bq (pv 0) Al (fun _ _=>rfl)) Af))) Af))))
    Bl)
   (Ao (Be (pv 2))))))),?_⟩
 have lx:=pr.len;refine⟨zAD _,fun r hr'=>?_⟩;have s1:Same H (upd H r (.lst [])):=An hr' _;refine (vE rfl (vI rfl rfl (SqT.of (s1 _ _ ht0)) rfl ?_));refine⟨_,rfl,b,rfl,⟨_,SqL.of (s1 _ _ hb)⟩,Db (K:=K) (a:=b) (xs:=xs)
  (fun i σ H2=>(∃ o1 o2 o3 ys,∃ begin:Int,σ=[some (.ref t0),some (.ref b),some (.ref r),some (.int begin),o1,o2,o3]/\H2 r=some (.lst ys)/\ys.length<=i/\∃ ks,Prs H2 ys ks/\CR.leftW p.2 p.1 qs=ks++CR.leftW p.2 begin (qs.drop i))/\Same H H2)
  ⟨⟨none,none,none,[],p.1,rfl,Ab,zAl _,[],trivial,rfl⟩,s1⟩ (fun i σ H2 _ ⟨_,e⟩=>SqL.of (e _ _ hb)) ?_ ?_⟩
 ·rintro i x σ H2 hi ⟨⟨o1,o2,o3,ys,begin,rfl,h1,ly,ks,pk,ek⟩,s2⟩
  obtain⟨t,p',hp,rfl,ht⟩:=pr.get hi;have ht2:=s2 _ _ ht;have hix:i<qs.length:=(zAi.mp hp).1;have ed:qs.drop i=p'::qs.drop (i+1):=by
   rw[zBu hix]
   congr 1
   exact (zAi.mp hp).2
  rw[ed,CR.leftW_cons] at ek;refine⟨t,_,rfl,SqT.of ht2,rfl,vC rfl (vC rfl (⟨rfl,?_⟩))⟩;refine (vE rfl (vE rfl (vI rfl rfl (SqT.of (s2 _ _ ht0)) rfl ⟨_,_,rfl,?_⟩)));refine (vE rfl (vE rfl (vF rfl rfl (vE rfl (Ss (fun c=>?_) (fun c=>?_))))))
  ·have c':begin<CR.minI p'.1 p.2:=of_decide_eq_true c
   rw[if_pos c'] at ek;refine (vE rfl ⟨.inl ⟨rfl,_,SqL.of h1⟩,vE rfl (vE rfl ⟨by show 2<=sizeLine; rw[zCE]; decide,fun u hu=>?_⟩)⟩);have s3:=An hu (.tup [.int begin,.int (CR.minI p'.1 p.2)]);refine⟨r,_,_,rfl,rfl,s3 _ _ h1,by rw[zCE]; lia,?_⟩;refine (vE rfl (vE rfl ⟨_,_,rfl,⟨_,_,_,_,_,rfl,Ab,by rw[zAo]; exact Nat.add_le_add ly (zAl 1),_,((pk.mono (Bo s3)).snoc Ab).mono (Dj (s3 _ _ h1) _),?_⟩,fun x o z=>?_⟩))
   ·rw[ek,zBE]
    rfl
   ·rw[Ar (Ap z hr')]
    exact s3 _ _ (s2 x o z)
  ·have c':¬ begin<CR.minI p'.1 p.2:=of_decide_eq_false (zBf.mpr c)
   rw[if_neg c'] at ek;refine (vE rfl (vE rfl ⟨_,_,rfl,⟨_,_,_,_,_,rfl,h1,by lia,_,pk,?_⟩,s2⟩));rw[ek];rfl
 ·rintro σ H2 ⟨⟨o1,o2,o3,ys,begin,rfl,h1,ly,ks,pk,ek⟩,s2⟩
  rw[lx,zBz,CR.leftW_nil] at ek;refine (vE rfl (vE rfl (vI rfl rfl (SqT.of (s2 _ _ ht0)) rfl (vF rfl rfl (vE rfl (Ss (fun c=>?_) (fun c=>?_)))))))
  ·have c':begin<p.2:=of_decide_eq_true c
   rw[if_pos c'] at ek;refine (vE rfl ⟨.inl ⟨rfl,_,SqL.of h1⟩,vE rfl (vE rfl (vI rfl rfl (SqT.of (s2 _ _ ht0)) rfl ⟨by show 2<=sizeLine; rw[zCE]; decide,fun u hu=>?_⟩))⟩);have s3:=An hu (.tup [.int begin,.int p.2]);refine⟨r,_,_,rfl,rfl,s3 _ _ h1,by rw[zCE]; lia,?_⟩;refine (vE rfl (q r _ (fun x o z=>?_) hr' ⟨_,Ab,?_⟩))
   ·rw[Ar (Ap z hr')]
    exact s3 _ _ (s2 x o z)
   ·rw[ek]
    exact ((pk.mono (Bo s3)).snoc Ab).mono (Dj (s3 _ _ h1) _)
  ·have c':¬ begin<p.2:=of_decide_eq_false (zBf.mpr c)
   rw[if_neg c',zAN] at ek;refine (vE rfl (q r _ s2 hr' ⟨_,h1,?_⟩));rw[ek];exact pk
theorem N7:Bd ["runs", "others", "left", "run"] ["runs", "others"] (As Oh):=⟨rfl,rfl,rfl,by decide +kernel,rfl,by decide +kernel,by decide +kernel⟩
theorem E9 {f:Addr} {fd:zCG} (F:Fun K "cut_out" "cut_out" Oh f fd) (T:Txt K mg) (Cleft_of_run:Cq P w K mg base 1 "left_of_run" ["run", "others"] M6):FnOk P w K mg base Da 2 f fd ["runs", "others"] AT:=by
 have sc:=N7;refine F.ok sc (fun vs H Q E h=>?_) (fun cdv A outer s H vs Q E hr h=>?_)
 ·obtain⟨_,_,_,_,rfl,_⟩:=h
  rfl
 obtain⟨a,b,ps,qs,rfl,⟨xs,ha,pr⟩,lq,hl,hl',q⟩:=h;refine⟨_,(Ae (Bf (i:=2) sc.nd rfl (Or.inl rfl) (Ci Af))
   (Ae (Ck PassesOwn.never rfl (Bt (pv 0)) (Ay (i:=3) sc.nd rfl (Or.inl rfl))
    (Ao (Cr (Gk PySem.F.plainAttrs_list PySem.F.slot_list_extend PySem.F.type_list_extend Kj (pv 2) (Aa (Ax Cleft_of_run (hr.mono (by decide)) rfl (Aa (pv 3) (Aa (pv 1) Af))) Af)))))
   (Ao (Be (pv 2))))),?_⟩
 have lx:=pr.len;refine⟨zAD _,fun r hr'=>?_⟩;have s1:Same H (upd H r (.lst [])):=An hr' _;refine⟨_,rfl,a,rfl,⟨_,SqL.of (s1 _ _ ha)⟩,Db (K:=K) (a:=a) (xs:=xs)
  (fun i σ H2=>(∃ o1 ys,σ=[some (.ref a),some (.ref b),some (.ref r),o1]/\H2 r=some (.lst ys)/\Prs H2 ys (CR.outW (ps.take i) qs))/\Same H H2)
  ⟨⟨none,[],rfl,Ab,trivial⟩,s1⟩ (fun i σ H2 _ ⟨_,e⟩=>SqL.of (e _ _ ha)) ?_ ?_⟩
 ·rintro i x σ H2 hi ⟨⟨o1,ys,rfl,h1,pk⟩,s2⟩
  obtain⟨t,p,hp,rfl,ht⟩:=pr.get hi;have hix:i<ps.length:=(zAi.mp hp).1;refine (vE rfl ⟨.inl ⟨rfl,_,SqL.of h1⟩,vE rfl (vE rfl ⟨t,b,qs,p,rfl,s2 _ _ ht,lq.same s2,hl',fun u H3 s3 hu ⟨zs,hz,pz⟩=>?_⟩)⟩);have e1:(CR.outW (ps.take i) qs).length<=1000*1001:=zAG (CR.outW_len _ _) (Nat.mul_le_mul (by rw[zAx]; lia) (by lia));have e2:(CR.leftW p.2 p.1 qs).length<=1001:=zAG (CR.leftW_len _ _ _) (by lia);refine⟨r,u,_,_,rfl,rfl,s3 _ _ h1,hz,by rw[pk.len,pz.len,zCE]; lia,⟨_,_,rfl,Ab,?_⟩,fun x o z=>?_⟩
  ·have e:CR.outW (ps.take (i+1)) qs=CR.outW (ps.take i) qs++CR.leftW p.2 p.1 qs:=by
    rw[Bu hp];unfold CR.outW;rw[zAq,List.flatten_append,List.map_singleton,List.flatten_singleton]
   rw[e];exact ((pk.mono (Bo s3)).app pz).mono (Dj (s3 _ _ h1) _)
  ·rw[Ar (Ap z hr')]
   exact s3 _ _ (s2 x o z)
 ·rintro σ H2 ⟨⟨o1,ys,rfl,h1,pk⟩,s2⟩
  rw[lx,zAA] at pk;exact (vE rfl (q r H2 s2 hr' ⟨ys,h1,pk⟩))
end
theorem Trs.last {H:Hp}:∀ {xs:List V} {ps:List Tr} {p:Tr},Trs H xs (ps++[p])->∃ ys t,xs=ys++[.ref t]/\H t=some (.tup [.int p.1,.int p.2.1,.int p.2.2])/\Trs H ys ps
 | [],[],_,h=>h.elim
 | [x],[],_,⟨⟨t,e,h⟩,_⟩=>⟨[],t,by rw[e]; rfl,h,trivial⟩
 | x::y::xs,[],_,⟨_,h⟩=>h.elim
 | [],q::ps,_,h=>h.elim
 | x::xs,q::ps,p,⟨z,r⟩=>by
  obtain⟨ys,t,e,h,r'⟩:=Trs.last (ps:=ps) r;exact⟨x::ys,t,by rw[e]; rfl,h,z,r'⟩
abbrev FC:=Int×Int
def Sps (H:Hp):List V->List FC->Prop
 | [],[]=>True
 | x::xs,p::ps=>(∃ t,x = .ref t/\H t=some (.tup [.int p.1,.int p.2]))/\Sps H xs ps
 | _,_=>False
theorem Sps.len {H:Hp}:∀ {xs:List V} {ps:List FC},Sps H xs ps->xs.length=ps.length
 | [],[],_=>rfl
 | [],_::_,h=>h.elim
 | _::_,[],h=>h.elim
 | x::xs,p::ps,h=>by rw[zAg,zAg,Sps.len h.2]
theorem Sps.mono {H H':Hp} (s:GK H H'):∀ {xs:List V} {ps:List FC},Sps H xs ps->Sps H' xs ps
 | [],[],_=>trivial
 | [],_::_,h=>h.elim
 | _::_,[],h=>h.elim
 | x::xs,p::ps,⟨⟨t,e,h⟩,r⟩=>⟨⟨t,e,s _ _ h⟩,Sps.mono s r⟩
theorem Sps.get {H:Hp}:∀ {xs:List V} {ps:List FC} {i:Nat} {x:V},Sps H xs ps->xs[i]?=some x->∃ t p,ps[i]?=some p/\x = .ref t/\H t=some (.tup [.int p.1,.int p.2])
 | [],[],_,_,_,e=>by simp at e
 | [],_::_,_,_,h,_=>h.elim
 | _::_,[],_,_,h,_=>h.elim
 | x::xs,p::ps,0,y,⟨⟨t,e,h⟩,r⟩,q=>by
  simp at q;subst q;exact⟨t,p,rfl,e,h⟩
 | x::xs,p::ps,i+1,y,⟨_,r⟩,q=>by
  obtain⟨t,p',h1,h2⟩:=Sps.get (i:=i) r (by simpa using q);exact⟨t,p',by simpa using h1,h2⟩
theorem Sps.snoc {H:Hp}:∀ {xs:List V} {ps:List FC} {t:Addr} {a b:Int},Sps H xs ps->H t=some (.tup [.int a,.int b])->Sps H (xs++[.ref t]) (ps++[(a,b)])
 | [],[],t,_,_,_,h=>⟨⟨t,rfl,h⟩,trivial⟩
 | [],_::_,_,_,_,r,_=>r.elim
 | _::_,[],_,_,_,r,_=>r.elim
 | x::xs,p::ps,_,_,_,⟨z,r⟩,h=>⟨z,Sps.snoc r h⟩
def Cls4 (CC CO CL CM:Addr) (H:Hp):List V->List Cl->Prop
 | [],[]=>True
 | x::xs,c::cs=>(∃ p,x = .ref p/\ClAt CC CO CL CM H p c)/\Cls4 CC CO CL CM H xs cs
 | _,_=>False
theorem Cls4.len {CC CO CL CM:Addr} {H:Hp}:∀ {xs:List V} {cs:List Cl},Cls4 CC CO CL CM H xs cs->xs.length=cs.length
 | [],[],_=>rfl
 | [],_::_,h=>h.elim
 | _::_,[],h=>h.elim
 | x::xs,c::cs,h=>by rw[zAg,zAg,Cls4.len h.2]
theorem Cls4.get {CC CO CL CM:Addr} {H:Hp}:∀ {xs:List V} {cs:List Cl} {i:Nat} {x:V},Cls4 CC CO CL CM H xs cs->xs[i]?=some x->∃ p c,cs[i]?=some c/\x = .ref p/\ClAt CC CO CL CM H p c
 | [],[],_,_,_,e=>by simp at e
 | [],_::_,_,_,h,_=>h.elim
 | _::_,[],_,_,h,_=>h.elim
 | x::xs,c::cs,0,y,⟨⟨p,e,h⟩,r⟩,q=>by
  simp at q;subst q;exact⟨p,c,rfl,e,h⟩
 | x::xs,c::cs,i+1,y,⟨_,r⟩,q=>by
  obtain⟨p,c',h1,h2⟩:=Cls4.get (i:=i) r (by simpa using q);exact⟨p,c',by simpa using h1,h2⟩
def OJ (H H':Hp):Prop:=∀ t C dx fs,H t=some (.ins C dx fs)->H' t=some (.ins C dx fs)
theorem Na {H H':Hp} (s:Same H H'):OJ H H':=fun t _ _ _ h=>s t _ h
theorem GQ {H:Hp} {l:Addr} {xs:List V} (h:H l=some (.lst xs)) (o:HO):OJ H (upd H l o):=fun t _ _ _ z=>by
 rw[Ar (Iz z h (by intro e; cases e))];exact z
theorem Cls4.mono {CC CO CL CM:Addr} {H H':Hp} (s:OJ H H'):∀ {xs:List V} {ps:List Cl},Cls4 CC CO CL CM H xs ps->Cls4 CC CO CL CM H' xs ps
 | [],[],_=>trivial
 | [],_::_,h=>h.elim
 | _::_,[],h=>h.elim
 | x::xs,p::ps,⟨⟨t,e,dx,h⟩,r⟩=>⟨⟨t,e,dx,s _ _ _ _ h⟩,Cls4.mono s r⟩
theorem Cls4.snoc {CC CO CL CM:Addr} {H:Hp}:∀ {xs:List V} {cs:List Cl} {p:Addr} {c:Cl},Cls4 CC CO CL CM H xs cs->ClAt CC CO CL CM H p c->Cls4 CC CO CL CM H (xs++[.ref p]) (cs++[c])
 | [],[],p,_,_,h=>⟨⟨p,rfl,h⟩,trivial⟩
 | [],_::_,_,_,z,_=>z.elim
 | _::_,[],_,_,z,_=>z.elim
 | x::xs,c::cs,_,_,⟨z,r⟩,h=>⟨z,Cls4.snoc r h⟩
def DY (k:Int) (c:Cl) (n:Int):FC:=(LN c n k,LR c n k)
def Br (k:Int) (cs:List Cl) (ns:List Int):List FC:=List.zipWith (DY k) cs ns
theorem L5 {k:Int} {cs:List Cl} {ns:List Int} {i:Nat} {c:Cl} {n:Int} (h1:cs[i]?=some c) (h2:ns[i]?=some n):Br k (cs.take (i+1)) (ns.take (i+1))=Br k (cs.take i) (ns.take i)++[DY k c n]:=by
 unfold Br;rw[Bu h1,Bu h2,List.zipWith_append (by
  have:=(zAi.mp h1).1;have:=(zAi.mp h2).1;rw[zAx,zAx]
  lia)]
 rfl
theorem Nh {k:Int} {cs:List Cl} {ns:List Int} (h:ns.length=cs.length):(Br k cs ns).length=cs.length:=by unfold Br; rw[zCl]; lia
def KI:Sp:=fun vs H Q _=>∃ a xs sp,∃ c:Int,vs=[.ref a,.int c]/\H a=some (.lst xs)/\Sps H xs sp/\sp.length<=60/\∀ H',Same H H'->Q (.int (CRP.fw sp c)) H'
def MT (sp:List FC) (cents y:Int):Prop:=y=0\/y=cents\/∃ p∈sp,y=p.1\/y=p.2
def EM:Sp:=fun vs H Q _=>∃ a xs sp,∃ cents:Int,vs=[.ref a,.int cents]/\H a=some (.lst xs)/\Sps H xs sp/\sp.length<=8/\∀ (l:Addr) (ms:List Int) (H':Hp),Same H H'->H l=none->H' l=some (.lst (ms.map V.int))->ms.Pairwise (· < ·)->(∀ y,y∈ms↔MT sp cents y)->ms.length<=20->Q (.ref l) H'
theorem BQ:∀ {ms ns:List Int},ms.Nodup->(∀ y∈ms,y∈ns)->ms.length<=ns.length
 | [],_,_,_=>zAD _
 | x::ms,ns,nd,h=>by
  rw[zAX] at nd;have hx:=h x zAj;have ih:=BQ (ns:=ns.erase x) nd.2 fun y hy=>(zCf (fun z:y=x=>nd.1 (by rw[<- z]; exact hy))).mpr (h y (zAf _ hy));rw[zBH hx] at ih;have:0<ns.length:=zBR hx;rw[zAg]
  lia
theorem JW {ms ns:List Int} (h:ms.Pairwise (· < ·)) (m:∀ y∈ms,y∈ns):ms.length<=ns.length:=by
 have nd:ms.Nodup:=h.imp fun {a b} z=>by lia
 exact BQ nd m
section
variable {P:Program} {w:World} {K:zAa} {mg:Str->Option Value} {base:Heap} {Ac Ag Ah Am Au Bb Ba At Ad Aw Ak Aj Bg Ai Az Aq:Addr}
theorem Nt:Bd ["spans", "cent", "k", "span"] ["spans", "cent"] (As Fu):=⟨rfl,rfl,rfl,by decide +kernel,rfl,by decide +kernel,by decide +kernel⟩
theorem Ny {f:Addr} {fd:zCG} (F:Fun K "first_without" "first_without" Fu f fd) (T:Txt K mg):FnOk P w K mg base Da 1 f fd ["spans", "cent"] KI:=by
 have sc:=Nt;refine F.ok sc (fun vs H Q E h=>?_) (fun cdv A outer s H vs Q E hr h=>?_)
 ·obtain⟨_,_,_,_,rfl,_⟩:=h
  rfl
 obtain⟨a,xs,sp,c,rfl,ha,ps,l60,q⟩:=h;refine⟨_,(Ae (Ck PassesOwn.never rfl (Mn rfl T.n_enumerate (Aa (pv 0) Af)) (Ea (n:=2) rfl (Bk (Ay (i:=2) sc.nd rfl (Or.inl rfl)) (Bk (Ay (i:=3) sc.nd rfl (Or.inl rfl)) Dh)))
    (Ao (Bw (PW.pt (Gv (Bj Fk (pv 1) (Bh Bq (pv 3) Al (fun _ _=>rfl)) (Bm _)) (Ft (Bj MG (pv 1) (Bh Bq (pv 3) Al (fun _ _=>rfl)) (Bm _)))))
    (Ao (Be (pv 2)))
    Bl)))
   (Ao (Be (Yu Rg Al)))),?_⟩
 have lx:=ps.len;refine (vE rfl ⟨a,rfl,⟨_,SqL.of ha⟩,Tj (K:=K) (a:=a) (xs:=xs) (fun i σ H2=>((∃ o1 o2,σ=[some (.ref a),some (.int c),o1,o2])/\CRP.fw sp c=CRP.fwFrom (sp.drop i) i c)/\Same H H2) ⟨⟨⟨none,none,rfl⟩,rfl⟩,fun _ _ z=>z⟩ (fun i σ H2 _ ⟨_,e⟩=>SqL.of (e _ _ ha)) ?_ ?_⟩)
 ·rintro i x σ H2 t hi ⟨⟨⟨o1,o2,rfl⟩,e⟩,s2⟩ nt
  obtain⟨u,p,hp,rfl,hu⟩:=ps.get hi;have s3:=s2.trans (An nt (.tup [.int i,.ref u]));have hu3:=s3 _ _ hu;rw[Ye hp] at e;have e2:CRP.fw sp c=if c<p.1\/p.2<=c then (i:Int) else CRP.fwFrom (sp.drop (i+1)) ((i:Int)+1) c:=e;refine (vE rfl (vE rfl (vI rfl rfl (SqT.of hu3) rfl (vF rfl rfl (vE rfl ?_)))));by_cases c1:c<p.1
  ·rw[if_pos (.inl c1)] at e2
   refine dT c1 (Kn (vE rfl ?_));have:=q _ s3;rw[e2] at this;exact this
  refine dF c1 (vE rfl (vE rfl (vI rfl rfl (SqT.of hu3) rfl (vF rfl rfl (vE rfl ?_)))));by_cases c2:p.2<=c
  ·rw[if_pos (.inr c2)] at e2
   refine dT c2 (vE rfl ?_);have:=q _ s3;rw[e2] at this;exact this
  ·rw[if_neg (by lia)] at e2
   exact dF c2 ⟨⟨⟨_,_,rfl⟩,by rw[e2]; rfl⟩,s3⟩
 ·rintro σ H2 ⟨⟨⟨o1,o2,rfl⟩,e⟩,s2⟩
  rw[lx,zBz] at e;have:=q _ s2;rw[e] at this;exact (vE rfl this)
theorem Xa:Bd ["spans", "cents", "bounds", "span"] ["spans", "cents"] (As Jg):=⟨rfl,rfl,rfl,by decide +kernel,rfl,by decide +kernel,by decide +kernel⟩
theorem Yl {f:Addr} {fd:zCG} (F:Fun K "bounds_of" "bounds_of" Jg f fd) (T:Txt K mg):FnOk P w K mg base Da 1 f fd ["spans", "cents"] EM:=by
 have sc:=Xa;refine F.ok sc (fun vs H Q E h=>?_) (fun cdv A outer s H vs Q E hr h=>?_)
 ·obtain⟨_,_,_,_,rfl,_⟩:=h
  rfl
 obtain⟨a,xs,sp,cents,rfl,ha,ps,l8,q⟩:=h;refine⟨_,(Ae (Bf (i:=2) sc.nd rfl (Or.inl rfl) (Ci (Aa Al (Aa (pv 1) Af))))
   (Ae (Ck PassesOwn.never rfl (Bt (pv 0)) (Ay (i:=3) sc.nd rfl (Or.inl rfl))
    (Ao (Cr (Gk PySem.F.plainAttrs_list PySem.F.slot_list_extend PySem.F.type_list_extend K9 (pv 2) (Aa (pv 3) Af)))))
   (Ao (Be (E7 (pv 2) rfl rfl T.n_sorted rfl T.n_set))))),?_⟩
 have lx:=ps.len;refine (vE rfl ⟨Cf (by show 2<=1000; decide),fun b nb=>?_⟩);have nab:a≠b:=Ap ha nb;refine⟨_,rfl,a,rfl,⟨_,SqL.of (An nb _ _ _ ha)⟩,Db (K:=K) (a:=a) (xs:=xs) (fun i σ H2=>(∃ o,σ=[some (.ref a),some (.int cents),some (.ref b),o])/\H2 b=some (.lst ((0::cents::(sp.take i).flatMap fun p=>[p.1,p.2]).map V.int))/\Same H H2) ⟨⟨none,rfl⟩,Ab,An nb _⟩
  (fun i σ H2 _ ⟨_,_,e⟩=>SqL.of (e _ _ ha)) ?_ ?_⟩
 ·rintro i x σ H2 hi ⟨⟨o,rfl⟩,hb,s2⟩
  obtain⟨u,p,hp,rfl,hu⟩:=ps.get hi;have il:i<sp.length:=(zAi.mp hp).1;have fl:∀ l:List FC,(l.flatMap fun p=>[p.1,p.2]).length=2*l.length:=fun l=>by
   induction l with
   | nil=>rfl
   | cons y l ih=>simp only [List.flatMap_cons,zAo,zAg,zCo,ih]; lia
  refine (vE rfl ⟨.inl ⟨rfl,_,SqL.of hb⟩,vE rfl ⟨b,u,_,_,rfl,rfl,hb,s2 _ _ hu,?_,⟨⟨_,rfl⟩,?_,fun y o z=>?_⟩⟩⟩)
  ·rw[zAb,zAg,zAg,fl,zAx,zCE]
   show _+2<=_
   lia
  ·rw[Ab,Bu hp,List.flatMap_append]
   congr 2
   show List.map V.int _++[V.int p.1,V.int p.2]=List.map V.int (0::cents::(_++_));rw[<- List.cons_append,<- List.cons_append,zAq];rfl
  ·rw[Ar (Ap z nb)]
   exact s2 y o z
 ·rintro σ H2 ⟨⟨o,rfl⟩,hb,s2⟩
  rw[lx,zAA] at hb;have fl:∀ l:List FC,(l.flatMap fun p=>[p.1,p.2]).length=2*l.length:=fun l=>by
   induction l with
   | nil=>rfl
   | cons y l ih=>simp only [List.flatMap_cons,zAo,zAg,zCo,ih]; lia
  have ln:(0::cents::sp.flatMap fun p=>[p.1,p.2]).length<=20:=by rw[zAg,zAg,fl]; lia
  refine (vE rfl ⟨b,_,rfl,SqL.of hb,by lia,fun l ms nl up mem=>q l ms _ (s2.trans (An nl _)) (s2.free nl) Ab up (fun y=>?_) ?_⟩)
  ·rw[mem y]
   unfold MT;constructor
   ·intro hy
    rcases zAn.mp hy with z | z
    ·exact .inl z
    rcases zAn.mp z with z | z
    ·exact .inr (.inl z)
    ·obtain⟨p,hp,hy'⟩:=List.mem_flatMap.mp z
     refine .inr (.inr ⟨p,hp,?_⟩)
     simpa using hy'
   ·rintro (z | z | ⟨p,hp,z⟩)
    ·rw[z]; exact zAj
    ·rw[z]; exact zAf _ zAj
    ·refine zAf _ (zAf _ (List.mem_flatMap.mpr ⟨p,hp,?_⟩))
     simpa using z
  ·exact zAG (JW up fun y hy=>(mem y).mp hy) ln
def Eb:List (Option Int)->Int->Option (Int×Int)->Option (Int×Int)
 | [],_,o=>o
 | none::r,k,o=>Eb r (k+1) o
 | some n::r,k,none=>Eb r (k+1) (some (n,k))
 | some n::r,k,some (m,j)=>Eb r (k+1) (if n<m then some (n,k) else some (m,j))
def IH:V->Option Int
 | .int n=>some n
 | _=>none
def RV (H:Hp) (v:V):Option (Int×Int)->Prop
 | none=>v = .non
 | some (n,k)=>∃ t,v = .ref t/\H t=some (.tup [.int n,.int k])
theorem RV.same {H H':Hp} {v:V} (s:Same H H'):∀ {o:Option (Int×Int)},RV H v o->RV H' v o
 | none,h=>h
 | some (n,k),⟨t,e,h⟩=>⟨t,e,s _ _ h⟩
def Cj (cs:List Cl) (ns:List Int):List (Option Int):=List.zipWith (fun c n=>IH (Rr c n)) cs ns
def Xn (CC CO CL CM C:Addr):Sp:=fun vs H Q _=>∃ p cl ct xs cs ns,vs=[.ref p,.ref ct]/\CvAt C H p cl/\H cl=some (.lst xs)/\Cls4 CC CO CL CM H xs cs/\H ct=some (.lst (List.map V.int ns))/\ns.length=cs.length /\
 ∀ v H',Same H H'->RV H' v (Eb (Cj cs ns) 0 none)->Q v H'
theorem DQ (c:Cl) (n:Int):Rr c n = .non\/∃ m:Int,Rr c n = .int m:=by
 cases c with
 | own y d=>exact .inl rfl
 | lay y a b=>exact .inl rfl
 | lim y m=>exact .inr ⟨_,rfl⟩
 | any y=>exact .inl rfl
theorem Uq:Bd ["self", "counts", "least", "k", "clause", "room"] ["self", "counts"] (As Hy):=⟨rfl,rfl,rfl,by decide +kernel,rfl,by decide +kernel,by decide +kernel⟩
theorem Ud {f:Addr} {fd:zCG} (F:Fun K "rest" "Cover.rest" Hy f fd) (T:Txt K mg) (L:Kl K mg Ac Ag Ah Am Au Bb Ba At Ad Aw Ak Aj Bg Ai Az Aq) (Mroom:Ph P w K mg base 1 (Fam Ad Aw Ak Aj) "room" ["self", "paid"] (Xt Ad Aw Ak Aj)):FnOk P w K mg base Da 2 f fd ["self", "counts"] (Xn Ad Aw Ak Aj Ai):=by
 have sc:=Uq;refine F.ok sc (fun vs H Q E h=>?_) (fun cdv A outer s H vs Q E hr h=>?_)
 ·obtain⟨_,_,_,_,_,_,rfl,_⟩:=h
  rfl
 obtain⟨p,cl,ct,xs,cs,ns,rfl,⟨dx,fs,hp,hlk,_⟩,hcl,C4,hct,ln,q⟩:=h;refine⟨_,(Ae (Bf (i:=2) sc.nd rfl (Or.inl rfl) Gj)
   (Ae (Ck PassesOwn.never rfl (Mn rfl T.n_enumerate (Aa (Cp (pv 0) rfl) Af)) (Ea (n:=2) rfl (Bk (Ay (i:=3) sc.nd rfl (Or.inl rfl)) (Bk (Ay (i:=4) sc.nd rfl (Or.inl rfl)) Dh)))
    (Ae (Bf (i:=5) sc.nd rfl (Or.inl rfl) (Gi Mroom (hr.mono (by decide)) (pv 4) (Aa (Bh Bp (pv 1) (pv 3) (fun _ _=>rfl)) Af)))
   (Ao (Bw (PW.pt (On (Bj V0 (pv 5) Gj (Bm _)) (Mp (PW.pt (Gv (Bj Qu (pv 2) Gj (Bm _)) (Ft (Bj Fk (pv 5) (Bh Bq (pv 2) Al (fun _ _=>rfl)) (Bm _))))))))
    (Ao (Bf (i:=2) sc.nd rfl (Or.inl rfl) (Cd (Aa (pv 5) (Aa (pv 3) Af)))))
    Bl))))
   (Ao (Be (pv 2))))),?_⟩
 have lx:=C4.len;have two:2<=sizeLine:=by rw[zCE]; decide
 refine⟨_,rfl,p,Ai,dx,fs,_,rfl,hp,L.cl_Cover,L.na_Cover_clauses,hlk,cl,rfl,⟨_,SqL.of hcl⟩,Tj (K:=K) (a:=cl) (xs:=xs)
  (fun i σ H2=>(∃ v o3 o4 o5 o,σ=[some (.ref p),some (.ref ct),some v,o3,o4,o5]/\RV H2 v o/\Eb (Cj cs ns) 0 none=Eb ((Cj cs ns).drop i) i o)/\Same H H2) ⟨⟨.non,none,none,none,none,rfl,rfl,rfl⟩,fun _ _ z=>z⟩ (fun i σ H2 _ ⟨_,e⟩=>SqL.of (e _ _ hcl)) ?_ ?_⟩
 ·rintro i x σ H2 t hi ⟨⟨v,o3,o4,o5,o,rfl,rv,er⟩,s2⟩ nt
  obtain⟨pc,c,hc,rfl,⟨dc,hat⟩⟩:=C4.get hi;have s3:=An nt (.tup [.int i,.ref pc]);have s23:=s2.trans s3;have ic:i<cs.length:=(zAi.mp hc).1;have hcn:cs[i]'ic=c:=(zAi.mp hc).2;have hnn:ns.getD i 0=ns[i]'(by lia):=by rw[zAt,zAe (by lia)]; rfl
  have nth:(Cj cs ns)[i]?=some (IH (Rr c (ns.getD i 0))):=by
   unfold Cj;rw[List.getElem?_zipWith,hc,zAe (show i<ns.length by lia),<- hnn]
  rw[Ye nth] at er;have rv3:=rv.same s3;refine (vE rfl ⟨pc,_,dc,_,rfl,s23 _ _ hat,F1 Ad Aw Ak Aj c,FH c,_,rfl,vE rfl (vI rfl rfl (SqL.of (s23 _ _ hct)) (Q1 (by lia) (by lia)) ⟨pc,c,_,rfl,⟨dc,s23 _ _ hat⟩,rfl,?_⟩)⟩);have ei:((i:Int)).toNat=i:=Int.toNat_natCast i;rw[ei];generalize hR:Rr c (ns.getD i 0)=rm at er;have rmv:rm = .non\/∃ m:Int,rm = .int m:=by rw[<- hR]; exact DQ c _
  rcases rmv with rfl | ⟨m,rfl⟩
  ·refine (vE rfl ⟨rfl,vE rfl (nF rfl (Dq ?_))⟩)
   exact⟨⟨v,_,_,_,o,rfl,rv3,er⟩,s23⟩
  ·refine (vE rfl ⟨rfl,vE rfl (nT (fun z=>nomatch z) ?_)⟩)
   have done:∀ (H4:Hp) (u:Addr) o5',Same H H4->H4 u=none->Eb (Cj cs ns) 0 none=Eb ((Cj cs ns).drop (i+1)) ((i:Int)+1) (some (m,(i:Int))) ->
     (∃ v o3 o4 o5 o,[some (.ref p),some (.ref ct),some (.ref u),some (.int i),some (.ref pc),o5']=[some (.ref p),some (.ref ct),some v,o3,o4,o5]/\RV (upd H4 u (.tup [.int m,.int i])) v o/\Eb (Cj cs ns) 0 none=Eb ((Cj cs ns).drop (i+1)) ((i+1:Nat):Int) o)/\Same H (upd H4 u (.tup [.int m,.int i])):=fun H4 u o5' s4 nu e=>by
    exact⟨⟨.ref u,_,_,_,some (m,i),rfl,⟨u,rfl,Ab⟩,by rw[e]; rfl⟩,s4.trans (An nu _)⟩
   cases o with
   | none=>
    have v0:v = .non:=rv;subst v0;refine (vE rfl ⟨rfl,vE rfl (dT rfl (Kn ?_))⟩);exact (vE rfl (vE rfl ⟨two,fun u nu=>done _ u _ s23 nu er⟩))
   | some mj=>
    obtain⟨n0,j0⟩:=mj;obtain⟨tv,rfl,htv⟩:=rv3;refine (vE rfl ⟨rfl,vE rfl (dF (fun z=>nomatch z) ?_)⟩);refine (vE rfl (vE rfl (vI rfl rfl (SqT.of htv) rfl (vF rfl rfl (vE rfl (Ss (fun c1=>?_) (fun c1=>?_)))))))
    ·have c1':m<n0:=of_decide_eq_true c1
     have er':Eb (Cj cs ns) 0 none=Eb ((Cj cs ns).drop (i+1)) ((i:Int)+1) (if m<n0 then some (m,(i:Int)) else some (n0,j0)):=er;rw[if_pos c1'] at er';exact (vE rfl (vE rfl ⟨two,fun u nu=>done _ u _ s23 nu er'⟩))
    ·have c1':¬ m<n0:=of_decide_eq_false (zBf.mpr c1)
     have er':Eb (Cj cs ns) 0 none=Eb ((Cj cs ns).drop (i+1)) ((i:Int)+1) (if m<n0 then some (m,(i:Int)) else some (n0,j0)):=er;rw[if_neg c1'] at er';exact⟨⟨.ref tv,_,_,_,some (n0,j0),rfl,⟨tv,rfl,htv⟩,by rw[er']; rfl⟩,s23⟩
 ·rintro σ H2 ⟨⟨v,o3,o4,o5,o,rfl,rv,er⟩,s2⟩
  have lr:(Cj cs ns).length=xs.length:=by unfold Cj; rw[zCl]; lia
  rw[<- lr,zBz] at er;exact (vE rfl (q v H2 s2 (by rw[er]; exact rv)))
theorem GI {nx:St->Hp->Prop} {σ:St} {H:Hp} (σ':St) (e:σ=σ') (h:nx σ' H):nx σ H:=e▸h
def OH (CC CO CL CM C:Addr) (H:Hp) (p cl ct:Addr) (cs:List Cl) (ns:List Int):Prop:=CvAt C H p cl/\(∃ xs,H cl=some (.lst xs)/\Cls4 CC CO CL CM H xs cs)/\H ct=some (.lst (ns.map V.int))/\ns.length=cs.length/\cs.length<=8
def Q0 (m:Int) (l:List Int):Prop:=m∈l/\∀ k∈l,k<=m
def Q5 (m:Int) (l:List Int):Prop:=m∈l/\∀ k∈l,m<=k
def Qh (CC CO CL CM C:Addr):Sp:=fun vs H Q _=>∃ p cl ct cs ns,∃ k:Int,vs=[.ref p,.ref ct,.int k]/\OH CC CO CL CM C H p cl ct cs ns/\∀ r ys H',Same H H'->H r=none->H' r=some (.lst ys)->Sps H' ys (Br k cs ns)->Q (.ref r) H'
def DG (CC CO CL CM C:Addr):Sp:=fun vs H Q _=>∃ p cl ct cs ns,∃ k:Int,vs=[.ref p,.ref ct,.int k]/\OH CC CO CL CM C H p cl ct cs ns/\∀ (t:Addr) (lo hi:Int) (H':Hp),Same H H'->H' t=some (.tup [.int lo,.int (if hi>lo then hi else lo)]) ->
 Q0 lo (0::(Br k cs ns).map (·.1))->Q5 hi (k::(Br k cs ns).map (·.2))->Q (.ref t) H'
def DH (CC CO CL CM C:Addr):Sp:=fun vs H Q _=>∃ p cl ct cs ns,∃ k:Int,vs=[.ref p,.ref ct,.int k]/\OH CC CO CL CM C H p cl ct cs ns/\∀ (r:Addr) (xs:List V) (ms:List Int) (H':Hp),Same H H'->H r=none->H' r=some (.lst xs)->ms.Pairwise (· < ·)->(∀ y,y∈ms↔MT (Br k cs ns) k y)->ms.length<=20 ->
 Trs H' xs (CRP.foldP (Br k cs ns) ms (ms.length-1))->Q (.ref r) H'
theorem Qz:Bd ["self", "counts", "cents"] ["self", "counts", "cents"] (As Hd):=⟨rfl,rfl,rfl,by decide +kernel,rfl,by decide +kernel,by decide +kernel⟩
theorem Sw {f:Addr} {fd:zCG} (F:Fun K "spans" "Cover.spans" Hd f fd) (T:Txt K mg) (L:Kl K mg Ac Ag Ah Am Au Bb Ba At Ad Aw Ak Aj Bg Ai Az Aq) (Mspan:Ph P w K mg base 2 (Fam Ad Aw Ak Aj) "span" ["self", "count", "cents"] (Sm Ad Aw Ak Aj)):FnOk P w K mg base Da 3 f fd ["self", "counts", "cents"] (Qh Ad Aw Ak Aj Ai):=by
 have sc:=Qz;refine F.ok sc (fun vs H Q E h=>?_) (fun cdv A outer s H vs Q E hr h=>?_)
 ·obtain⟨_,_,_,_,_,_,rfl,_⟩:=h
  rfl
 obtain⟨p,cl,ct,cs,ns,k,rfl,⟨⟨dx,fs,e1,fc,nm⟩,⟨xs,hcl,cc⟩,hct,ln,l8⟩,q⟩:=h;refine⟨_,(Ao (Be (De (NC:=["k", "clause", "cents", "counts"]) (own:=["k", "clause"]) (cs:=["cents", "counts"]) (ix:=[2,1]) rfl (CompScope.of rfl) rfl ⟨⟨rfl,.inl rfl,rfl⟩,⟨⟨rfl,.inl rfl,rfl⟩,trivial⟩⟩ (Mn rfl T.n_enumerate (Aa (Cp (pv 0) rfl) Af)) (fun _ _ _=>(V5 (K:=K) (n:=2) rfl rfl (Bk (Ay (i:=0) (show (["k", "clause", "cents", "counts"]:List Str).Nodup from by decide +kernel) rfl (Or.inl rfl)) (Bk (Ay (i:=1) (show (["k", "clause", "cents", "counts"]:List Str).Nodup from by decide +kernel) rfl (Or.inl rfl)) Dh)))) (fun _ _ _=>Cu) (fun _ _ _=>(Gi Mspan (hr.mono (by decide)) (pv 1) (Aa (Bh (Gu (K:=K) rfl) (pv 3) (pv 0) (fun _ _=>rfl)) (Aa (pv 2) Af))))))),?_⟩;have lx:=cc.len;refine (vE rfl ⟨p,Ai,dx,fs,_,rfl,e1,L.cl_Cover,L.na_Cover_clauses,fc,cl,rfl,⟨_,SqL.of hcl⟩,fun b nb=>?_⟩);refine Vj (K:=K) (a:=cl) (xs:=xs) (fun i ys H2=>Sps H2 ys (Br k (cs.take i) (ns.take i))/\H2 b=some (.lst ys)/\Same H H2) ⟨trivial,Ab,An nb _⟩
  (fun i ys H2 _ ⟨e,x1,x2⟩=>⟨x1,by rw[e.len,Nh (by rw[zAx,zAx,ln]),zAx]; lia,SqL.of (x2 _ _ hcl)⟩) (by rw[zCE]; lia) (fun i x ys H2 t hi ⟨e,x1,x2⟩ ht=>?_) (fun ys H2 ⟨e,x1,x2⟩=>?_)
 ·obtain⟨o,c,hc,rfl,ho⟩:=cc.get hi
  have il:i<cs.length:=(zAi.mp hc).1;have hn:ns[i]?=some (ns[i]'(by lia)):=zAe (by lia);have s3:=x2.trans (An ht (.tup [.int i,.ref o]));have ho3:=ho.same s3;obtain⟨od,ho4⟩:=id ho3;have ati:Nf (ns.map V.int) (i:Int)=some (.int (ns[i]'(by lia))):=Ey (by rw[zAs,hn]; rfl);refine (vE rfl ⟨o,_,od,_,rfl,ho4,F1 _ _ _ _ c,FU c,_,rfl,vE rfl (vI rfl rfl (SqL.of (s3 _ _ hct)) ati (vE rfl ⟨o,c,_,k,rfl,ho3,rfl,fun u H4 s4 hu=>⟨s4 _ _ (An ht _ _ _ x1),rfl,?_,Ab,fun y ob z=>?_⟩⟩))⟩)
  ·rw[L5 hc hn]
   have h1:=s4 _ _ (An ht (.tup [.int i,.ref o]) _ _ x1);exact (((e.mono (Bo (An ht _))).mono (Bo s4)).snoc hu).mono (Dj h1 _)
  ·rw[Ar (Ap z nb)]
   exact s4 _ _ (s3 y ob z)
 rw[lx,zAA,<- ln,zAA] at e;exact q b ys H2 x2 nb x1 e
theorem Pn:Bd ["self", "counts", "cents", "spans", "lo", "hi"] ["self", "counts", "cents"] (As Ge):=⟨rfl,rfl,rfl,by decide +kernel,rfl,by decide +kernel,by decide +kernel⟩
theorem Pd {f:Addr} {fd:zCG} (F:Fun K "window" "Cover.window" Ge f fd) (T:Txt K mg) (L:Kl K mg Ac Ag Ah Am Au Bb Ba At Ad Aw Ak Aj Bg Ai Az Aq) (Mspans:Ix P w K mg base 3 Ai "spans" ["self", "counts", "cents"] (Qh Ad Aw Ak Aj Ai)):FnOk P w K mg base Da 4 f fd ["self", "counts", "cents"] (DG Ad Aw Ak Aj Ai):=by
 have sc:=Pn;refine F.ok sc (fun vs H Q E h=>?_) (fun cdv A outer s H vs Q E hr h=>?_)
 ·obtain⟨_,_,_,_,_,_,rfl,_⟩:=h
  rfl
 obtain⟨p,cl,ct,cs,ns,k,rfl,CV,q⟩:=h;refine⟨_,(Ae (Bf (i:=3) sc.nd rfl (Or.inl rfl) (Ec Mspans (hr.mono (by decide)) (pv 0) (Aa (pv 1) (Aa (pv 2) Af))))
   (Ae (Bf (i:=4) sc.nd rfl (Or.inl rfl) (Bn (Y0 rfl) rfl T.n_max (show zCF _=some (.builtin "max") from rfl) (Aa (Bc Kb (Ci (Aa Al Af)) (De (NC:=["span"]) (own:=["span"]) (cs:=[]) (ix:=[]) rfl (CompScope.of rfl) rfl trivial (Bt (pv 3)) (fun _ _ _=>(Ay (i:=0) (show (["span"]:List Str).Nodup from by decide +kernel) rfl (Or.inl rfl))) (fun _ _ _=>Cu) (fun _ _ _=>(Bh (Cs (K:=K) rfl) (pv 0) Al (fun _ _=>rfl))))) Af)))
   (Ae (Bf (i:=5) sc.nd rfl (Or.inl rfl) (Bn (W8 rfl) rfl T.n_min (show zCF _=some (.builtin "min") from rfl) (Aa (Bc Kb (Ci (Aa (pv 2) Af)) (De (NC:=["span"]) (own:=["span"]) (cs:=[]) (ix:=[]) rfl (CompScope.of rfl) rfl trivial (Bt (pv 3)) (fun _ _ _=>(Ay (i:=0) (show (["span"]:List Str).Nodup from by decide +kernel) rfl (Or.inl rfl))) (fun _ _ _=>Cu) (fun _ _ _=>(Bh (Cs (K:=K) rfl) (pv 0) Al (fun _ _=>rfl))))) Af)))
   (Ao (Be (Cd (Aa (pv 4) (Aa (Bn (Hu rfl) rfl T.n_max (show zCF _=some (.builtin "max") from rfl) (Aa (pv 4) (Aa (pv 5) Af))) Af)))))))),?_⟩
 have one:1<=sizeLine:=by rw[zCE]; decide
 have two:2<=sizeLine:=by rw[zCE]; decide
 obtain⟨⟨dx,fs,e1,fc,nm⟩,_,_,ln,l8⟩:=id CV;refine (vE rfl ⟨p,dx,fs,rfl,e1,nm.1,_,rfl,vE rfl ⟨p,cl,ct,cs,ns,k,rfl,CV,fun r ys H1 s1 nr hr1 ps=>?_⟩⟩);have lsp:(Br k cs ns).length<=8:=by rw[Nh ln]; exact l8
 generalize Br k cs ns=sp at ps q lsp;have ly:=ps.len;refine Dr [some (.ref p),some (.ref ct),some (.int k),some (.ref r),none,none] rfl ?_;refine⟨one,fun l1 n1=>?_⟩;have t1:=An n1 (.lst [V.int 0]);refine (vE rfl ⟨r,rfl,⟨_,SqL.of (t1 _ _ hr1)⟩,fun b nb=>?_⟩);have hl1:upd H1 l1 (.lst [V.int 0]) l1=some (.lst [V.int 0]):=Ab;generalize upd H1 l1 (.lst [V.int 0])=H2 at t1 hl1 nb;have hr2:=t1 _ _ hr1;have ps2:=ps.mono (Bo t1);refine Cb (K:=K) (a:=r) (xs:=ys) (fun i zs H3=>zs=((sp.take i).map (·.1)).map V.int/\H3 b=some (.lst zs)/\Same H2 H3) ⟨rfl,Ab,An nb _⟩
  (fun i zs H3 _ ⟨e,x1,x2⟩=>⟨x1,by rw[e,zAb,zAb,zAx]; lia,SqL.of (x2 _ _ hr2)⟩) (by rw[zCE]; lia) (fun i x zs H3 hi ⟨e,x1,x2⟩=>?_) (fun zs H3 ⟨e,x1,x2⟩=>?_)
 ·obtain⟨t,pp,hp,rfl,ht⟩:=ps2.get hi
  refine (vE rfl (vI rfl rfl (SqT.of (x2 _ _ ht)) rfl ⟨x1,rfl,?_,Ab,fun y o z=>?_⟩))
  ·rw[Bu hp,zAq,zAq,e]
   rfl
  ·rw[Ar (Ap z nb)]
   exact x2 y o z
 rw[ly,zAA] at e;subst e;refine⟨l1,b,_,_,rfl,rfl,x2 _ _ hl1,x1,by rw[zAb,zAb,zCE]; show 1+_<=_; lia,fun l2 n2=>?_⟩;have t3:=An n2 (.lst ([V.int 0]++(sp.map (·.1)).map V.int));refine⟨l2,0::sp.map (·.1),rfl,SqL.of Ab,by simp,fun lo hlo blo=>?_⟩;have S3:=t1.trans (x2.trans t3);generalize upd H3 l2 (.lst ([V.int 0]++(sp.map (·.1)).map V.int))=H4 at S3;have hr4:=S3 _ _ hr1;have ps4:=ps.mono (Bo S3);clear x1 x2 t3 t1 hl1 hr2 ps2 n2 nb n1;refine Dr [some (.ref p),some (.ref ct),some (.int k),some (.ref r),some (.int lo),none] rfl ?_;refine (vE rfl ⟨one,fun l1 n1=>?_⟩);have t1:=An n1 (.lst [V.int k]);refine (vE rfl ⟨r,rfl,⟨_,SqL.of (t1 _ _ hr4)⟩,fun b nb=>?_⟩);have hl1:upd H4 l1 (.lst [V.int k]) l1=some (.lst [V.int k]):=Ab;generalize upd H4 l1 (.lst [V.int k])=H5 at t1 hl1 nb;have hr5:=t1 _ _ hr4;have ps5:=ps4.mono (Bo t1);refine Cb (K:=K) (a:=r) (xs:=ys) (fun i zs H6=>zs=((sp.take i).map (·.2)).map V.int/\H6 b=some (.lst zs)/\Same H5 H6) ⟨rfl,Ab,An nb _⟩
  (fun i zs H6 _ ⟨e,x1,x2⟩=>⟨x1,by rw[e,zAb,zAb,zAx]; lia,SqL.of (x2 _ _ hr5)⟩) (by rw[zCE]; lia) (fun i x zs H6 hi ⟨e,x1,x2⟩=>?_) (fun zs H6 ⟨e,x1,x2⟩=>?_)
 ·obtain⟨t,pp,hp,rfl,ht⟩:=ps5.get hi
  refine (vE rfl (vI rfl rfl (SqT.of (x2 _ _ ht)) rfl ⟨x1,rfl,?_,Ab,fun y o z=>?_⟩))
  ·rw[Bu hp,zAq,zAq,e]
   rfl
  ·rw[Ar (Ap z nb)]
   exact x2 y o z
 rw[ly,zAA] at e;subst e;refine⟨l1,b,_,_,rfl,rfl,x2 _ _ hl1,x1,by rw[zAb,zAb,zCE]; show 1+_<=_; lia,fun l2 n2=>?_⟩;have t3:=An n2 (.lst ([V.int k]++(sp.map (·.2)).map V.int));refine⟨l2,k::sp.map (·.2),rfl,SqL.of Ab,by simp,fun hi hhi bhi=>?_⟩;have S6:=s1.trans (S3.trans (t1.trans (x2.trans t3)));generalize upd H6 l2 (.lst ([V.int k]++(sp.map (·.2)).map V.int))=H7 at S6;refine Dr [some (.ref p),some (.ref ct),some (.int k),some (.ref r),some (.int lo),some (.int hi)] rfl ?_;refine (vE rfl (vE rfl (vE rfl ⟨_,_,rfl,two,fun t nt=>?_⟩)));exact q t lo hi _ (S6.trans (An nt _)) Ab ⟨hlo,blo⟩ ⟨hhi,bhi⟩
theorem FY (xs:List V):D8 xs (some 1) none=xs.drop 1:=by
 unfold D8;rw[HT.sIx_none,show (some (1:Int))=some ((1:Nat):Int) from rfl,HT.sIx_nat];cases xs with
 | nil=>rfl
 | cons x xs=>
  rw[show min 1 (x::xs).length=1 by rw[zAg]; lia,List.take_of_length_le];rw[zCA];exact zAl _
theorem Qy:Bd ["self", "counts", "cents", "spans", "bounds", "told", "lo", "hi", "k"] ["self", "counts", "cents"] (As Hh):=⟨rfl,rfl,rfl,by decide +kernel,rfl,by decide +kernel,by decide +kernel⟩
theorem Sg {f:Addr} {fd:zCG} (F:Fun K "parts" "Cover.parts" Hh f fd) (T:Txt K mg) (L:Kl K mg Ac Ag Ah Am Au Bb Ba At Ad Aw Ak Aj Bg Ai Az Aq) (Mspans:Ix P w K mg base 3 Ai "spans" ["self", "counts", "cents"] (Qh Ad Aw Ak Aj Ai)) (Cbounds_of:Cq P w K mg base 1 "bounds_of" ["spans", "cents"] EM)
  (Cfirst_without:Cq P w K mg base 1 "first_without" ["spans", "cent"] KI):FnOk P w K mg base Da 4 f fd ["self", "counts", "cents"] (DH Ad Aw Ak Aj Ai):=by
 have sc:=Qy;refine F.ok sc (fun vs H Q E h=>?_) (fun cdv A outer s H vs Q E hr h=>?_)
 ·obtain⟨_,_,_,_,_,_,rfl,_⟩:=h
  rfl
 obtain⟨p,cl,ct,cs,ns,k,rfl,CV,q⟩:=h;refine⟨_,(Ae (Bf (i:=3) sc.nd rfl (Or.inl rfl) (Ec Mspans (hr.mono (by decide)) (pv 0) (Aa (pv 1) (Aa (pv 2) Af))))
   (Ae (Bf (i:=4) sc.nd rfl (Or.inl rfl) (Ax Cbounds_of (hr.mono (by decide)) rfl (Aa (pv 3) (Aa (pv 2) Af))))
   (Ae (Bf (i:=5) sc.nd rfl (Or.inl rfl) (Ci Af))
   (Ae (Ck PassesOwn.never rfl (KE rfl T.n_zip (Aa (pv 4) (Aa (Ru Wb (pv 4) (Yc Al) Yk) Af))) (Ea (n:=2) rfl (Bk (Ay (i:=6) sc.nd rfl (Or.inl rfl)) (Bk (Ay (i:=7) sc.nd rfl (Or.inl rfl)) Dh)))
    (Ae (Bf (i:=8) sc.nd rfl (Or.inl rfl) (Ax Cfirst_without (hr.mono (by decide)) rfl (Aa (pv 3) (Aa (pv 6) Af))))
   (Ae (Bw (PW.pt (On (AR (pv 5)) (Mp (Bj Di (Bh Bq (Bh Bp (pv 5) (Yu Rg Al) (fun _ _=>rfl)) Al (fun _ _=>rfl)) (pv 8) (Bm _)))))
    (Ao (Bf (i:=6) sc.nd rfl (Or.inl rfl) (Bh Bq (KD PySem.F.plainAttrs_list PySem.F.slot_list_pop PySem.F.type_list_pop JP (pv 5)) Al (fun _ _=>rfl))))
    Bl)
   (Ao (Cr (Gk PySem.F.plainAttrs_list PySem.F.slot_list_append PySem.F.type_list_append Do (pv 5) (Aa (Cd (Aa (pv 6) (Aa (pv 7) (Aa (pv 8) Af)))) Af)))))))
   (Ao (Be (pv 5))))))),?_⟩
 have three:3<=sizeLine:=by rw[zCE]; decide
 obtain⟨⟨dx,fs,e1,fc,nm⟩,_,_,ln,l8⟩:=id CV;refine (vE rfl ⟨p,dx,fs,rfl,e1,nm.1,_,rfl,vE rfl ⟨p,cl,ct,cs,ns,k,rfl,CV,fun a ys H1 s1 na ha ps=>?_⟩⟩);have lsp:(Br k cs ns).length<=8:=by rw[Nh ln]; exact l8
 generalize Br k cs ns=sp at ps q lsp;have ly:=ps.len;refine (vE rfl (vE rfl ⟨a,ys,sp,k,rfl,ha,ps,lsp,fun l ms H2 s2 nl hl up mem l20=>?_⟩));refine⟨zAD _,fun r nr=>?_⟩;have ha2:=s2 _ _ ha;have ps2:=ps.mono (Bo s2);have S2:=s1.trans s2;refine Dr [some (.ref p),some (.ref ct),some (.int k),some (.ref a),some (.ref l),some (.ref r),none,none,none] rfl ?_;have t1:=An nr (.lst []);refine (vE rfl (vE rfl (vE rfl ⟨l,_,rfl,SqL.of (t1 _ _ hl),fun m nm'=>?_⟩)));rw[FY,<- List.map_drop];have t2:=An nm' (.lst ((ms.drop 1).map V.int));have lrm:r≠m:=Ap Ab nm';have hr3:upd (upd H2 r (.lst [])) m (.lst ((ms.drop 1).map V.int)) r=some (.lst []):=by rw[Ar lrm,Ab]
 have hm3:upd (upd H2 r (.lst [])) m (.lst ((ms.drop 1).map V.int)) m=some (.lst ((ms.drop 1).map V.int)):=Ab;have s3:=t1.trans t2;have nm2:H2 m=none:=t1.free nm';generalize upd (upd H2 r (.lst [])) m (.lst ((ms.drop 1).map V.int))=H3 at hr3 hm3 s3;have sm:∀ (H4:Hp) (o:HO),Same H2 H4->Same H2 (upd H4 r o):=fun H4 o s4 b u z=>by rw[Ar (Ap z nr)]; exact s4 b u z
 refine⟨l,m,rfl,⟨_,SqL.of (s3 _ _ hl)⟩,⟨_,SqL.of hm3⟩,FW (K:=K) (K':=K) (a:=l) (b:=m) (xs:=ms.map V.int) (ys:=(ms.drop 1).map V.int)
  (fun i σ H4=>(∃ o6 o7 o8 zs,σ=[some (.ref p),some (.ref ct),some (.int k),some (.ref a),some (.ref l),some (.ref r),o6,o7,o8]/\H4 r=some (.lst zs)/\Trs H4 zs (CRP.foldP sp ms i))/\H4 m=some (.lst ((ms.drop 1).map V.int))/\Same H2 H4)
  ⟨⟨none,none,none,[],rfl,hr3,trivial⟩,hm3,s3⟩ (fun i σ H4 _ ⟨_,e,s4⟩=>⟨SqL.of (s4 _ _ hl),SqL.of e⟩) ?_ ?_⟩
 ·rintro i x y σ H4 t hx hy ⟨⟨o6,o7,o8,zs,rfl,hr4,pk⟩,hm4,s4⟩ nt
  rw[zAs] at hx hy;obtain⟨lo,hlo,rfl⟩:=zAJ.mp hx;obtain⟨hi,hhi,rfl⟩:=zAJ.mp hy;rw[List.getElem?_drop] at hhi;have elo:ms.getD i 0=lo:=by rw[zAt,hlo]; rfl
  have ehi:ms.getD (i+1) 0=hi:=by rw[zAt,show i+1=1+i by lia,hhi]; rfl
  have nx:=CRP.foldP_succ sp ms i;rw[elo,ehi] at nx;have il:i<ms.length:=(zAi.mp hlo).1;have lz:=pk.len;have lf:=CRP.foldP_len sp ms i;have u1:=An nt (.tup [V.int lo,.int hi]);have hr5:=u1 _ _ hr4;have hm5:=u1 _ _ hm4;have pk5:=pk.mono (Bo u1);have s5:=s4.trans u1;generalize upd H4 t (.tup [V.int lo,.int hi])=H5 at u1 hr5 hm5 pk5 s5;refine GI [some (.ref p),some (.ref ct),some (.int k),some (.ref a),some (.ref l),some (.ref r),some (.int lo),some (.int hi),o8] rfl ?_;refine (vE rfl (vE rfl ⟨a,ys,sp,lo,rfl,s5 _ _ ha2,ps2.mono (Bo s5),by lia,fun H6 u2=>?_⟩));have hr6:=u2 _ _ hr5;have hm6:=u2 _ _ hm5;have pk6:=pk5.mono (Bo u2);have s6:=s5.trans u2;generalize CRP.fw sp lo=kk at nx;refine Dr [some (.ref p),some (.ref ct),some (.int k),some (.ref a),some (.ref l),some (.ref r),some (.int lo),some (.int hi),some (.int kk)] rfl ?_;have put:∀ (H7:Hp) (vs:List V) (ks:List Tr) (u:Addr) (lo':Int),H7 r=some (.lst vs)->Trs H7 vs ks->H7 u=none->H7 m=some (.lst ((ms.drop 1).map V.int))->Same H2 H7->CRP.foldP sp ms (i+1)=ks++[(lo',hi,kk)] ->
    (∃ o6 o7 o8 zs,[some (V.ref p),some (.ref ct),some (.int k),some (.ref a),some (.ref l),some (.ref r),some (.int lo'),some (.int hi),some (.int kk)]=[some (.ref p),some (.ref ct),some (.int k),some (.ref a),some (.ref l),some (.ref r),o6,o7,o8]/\upd (upd H7 u (.tup [.int lo',.int hi,.int kk])) r (.lst (vs++[.ref u])) r=some (.lst zs)/\Trs (upd (upd H7 u (.tup [.int lo',.int hi,.int kk])) r (.lst (vs++[.ref u]))) zs (CRP.foldP sp ms (i+1))) /\
     upd (upd H7 u (.tup [.int lo',.int hi,.int kk])) r (.lst (vs++[.ref u])) m=some (.lst ((ms.drop 1).map V.int))/\Same H2 (upd (upd H7 u (.tup [.int lo',.int hi,.int kk])) r (.lst (vs++[.ref u]))):=fun H7 vs ks u lo' e1 e2 e3 e4 e5 e6=>by
   have su:=An e3 (.tup [.int lo',.int hi,.int kk]);refine⟨⟨_,_,_,_,rfl,Ab,?_⟩,by rw[Ar lrm.symm]; exact su _ _ e4,sm _ _ (e5.trans su)⟩;rw[e6];exact ((e2.mono (Bo su)).snoc Ab).mono (Dj (su _ _ e1) _)
  generalize hks:CRP.foldP sp ms i=ks at pk6 nx lz lf;rcases List.eq_nil_or_concat ks with rfl | ⟨kr,⟨l0,h0,k0⟩,rfl⟩
  ·have zs0:zs=[]:=List.eq_nil_of_length_eq_zero lz
   subst zs0;refine (vE rfl ⟨_,.inl ⟨[],SqL.of hr6,rfl⟩,bF rfl (Dq ?_)⟩);refine (vE rfl ⟨.inl ⟨rfl,_,SqL.of hr6⟩,vE rfl (vE rfl (vE rfl ⟨three,fun u nu=>?_⟩))⟩);exact⟨r,_,_,rfl,rfl,An nu _ _ _ hr6,by rw[zCE]; decide,put H6 [] [] u lo hr6 trivial nu hm6 s6 nx⟩
  ·rw[List.concat_eq_append] at pk6 nx lz lf
   obtain⟨vs,tl,rfl,htl,pv⟩:=pk6.last;rw[CRP.stepP_snoc] at nx;rw[zAo] at lz;have lv:vs.length<=20:=by rw[zAo] at lf; have z:vs.length+1=_:=lz; rw[zAo] at z; lia
   refine (vE rfl ⟨_,.inl ⟨_,SqL.of hr6,rfl⟩,bT (by simp) ?_⟩);refine (vE rfl (vE rfl (vI rfl rfl (SqL.of hr6) (DA _ _) (vI rfl rfl (SqT.of htl) rfl (vE rfl ⟨rfl,vE rfl (Ss (fun c=>?_) (fun c=>?_))⟩)))))
   ·have c':k0=kk:=V.int.inj (of_decide_eq_true c)
    rw[if_pos c'] at nx;refine (vE rfl ⟨.inl ⟨rfl,_,SqL.of hr6⟩,r,_,.ref tl,rfl,rfl,hr6,by simp,?_⟩);rw[List.dropLast_concat];have t3:GK H6 (upd H6 r (.lst vs)):=Dj hr6 _;have htl7:=t3 _ _ htl;have pv7:=pv.mono t3;have hr7:upd H6 r (.lst vs) r=some (.lst vs):=Ab;have hm7:upd H6 r (.lst vs) m=some (.lst ((ms.drop 1).map V.int)):=by rw[Ar lrm.symm]; exact hm6
    have s7:=sm H6 (.lst vs) s6;generalize upd H6 r (.lst vs)=H7 at t3 htl7 pv7 hr7 hm7 s7;refine (vI rfl rfl (SqT.of htl7) rfl ?_);refine Dr [some (.ref p),some (.ref ct),some (.int k),some (.ref a),some (.ref l),some (.ref r),some (.int l0),some (.int hi),some (.int kk)] rfl ?_;refine (vE rfl ⟨.inl ⟨rfl,_,SqL.of hr7⟩,vE rfl (vE rfl (vE rfl ⟨three,fun u nu=>?_⟩))⟩);exact⟨r,_,_,rfl,rfl,An nu _ _ _ hr7,by rw[zCE]; lia,put H7 vs kr u l0 hr7 pv7 nu hm7 s7 nx⟩
   ·have c':¬ k0=kk:=fun z=>c (decide_eq_true (by rw[z]))
    rw[if_neg c'] at nx;refine (vE rfl ⟨.inl ⟨rfl,_,SqL.of hr6⟩,vE rfl (vE rfl (vE rfl ⟨three,fun u nu=>?_⟩))⟩);exact⟨r,_,_,rfl,rfl,An nu _ _ _ hr6,by rw[zAo,zCE]; show vs.length+1<_; lia,put H6 _ _ u lo hr6 pk6 nu hm6 s6 nx⟩
 ·rintro σ H4 ⟨⟨o6,o7,o8,zs,rfl,hr4,pk⟩,hm4,s4⟩
  have le:min (ms.map V.int).length ((ms.drop 1).map V.int).length=ms.length-1:=by rw[zAb,zAb,zCA]; lia
  rw[le] at pk;exact (vE rfl (q r zs ms H4 (S2.trans s4) (S2.free nr) hr4 up mem l20 pk))
end
abbrev Cv:=Addr×Str×Bool
def Qc (c:Cv):V:=.ref c.1
def CvsAt (C:Addr) (H:Hp) (cs:List Cv):Prop:=∀ c∈cs,∃ dx fs,H c.1=some (.ins C dx fs)/\fs.lookup ("name" : Str)=some (.str c.2.1)/\fs.lookup ("waits" : Str)=some (.bl c.2.2)
theorem CvsAt.same {C:Addr} {H H':Hp} {cs:List Cv} (h:CvsAt C H cs) (s:Same H H'):CvsAt C H' cs:=fun c hc=>by
 obtain⟨dx,fs,e,r⟩:=h c hc;exact⟨dx,fs,s _ _ e,r⟩
theorem CvsAt.get {C:Addr} {H:Hp} {cs:List Cv} {i:Nat} {x:V} (h:CvsAt C H cs) (e:(cs.map Qc)[i]?=some x):∃ c dx fs,cs[i]?=some c/\x = .ref c.1/\c∈cs/\H c.1=some (.ins C dx fs)/\fs.lookup ("name" : Str)=some (.str c.2.1)/\fs.lookup ("waits" : Str)=some (.bl c.2.2):=by
 rw[zAs] at e;obtain⟨c,hc,rfl⟩:=zAJ.mp e;have m:=zAE hc;obtain⟨dx,fs,r⟩:=h c m;exact⟨c,dx,fs,hc,rfl,m,r⟩
theorem CvsAt.ne {C CB:Addr} {H:Hp} {cs:List Cv} {p dx:Addr} (h:CvsAt C H cs) (hp:H p=some (.ins CB dx [])):∀ c∈cs,c.1≠p:=fun c hc z=>by
 obtain⟨d2,fs,e,n,_⟩:=h c hc;rw[z,hp] at e;injection e with e;injection e with _ _ e;subst e;cases n
theorem CvsAt.kb {C CB:Addr} {H H':Hp} {cs:List Cv} {p dx:Addr} (h:CvsAt C H cs) (hp:H p=some (.ins CB dx [])) (k:KB p H H'):CvsAt C H' cs:=fun c hc=>by
 obtain⟨d2,fs,e,r⟩:=h c hc;exact⟨d2,fs,k _ _ e (h.ne hp c hc),r⟩
def IT (cs:List Cv):List Cv:=cs.filter (fun c => !c.2.2)++cs.filter (fun c=>c.2.2)
structure BkAt (CB:Addr) (H:Hp) (p cl ak:Addr) (cs:List Cv):Prop where
 ob:∃ dx fs,H p=some (.ins CB dx fs)/\fs.lookup ("covers" : Str)=some (.ref cl)/\fs.lookup ("asking" : Str)=some (.ref ak)/\fs.lookup ("named" : Str)=none
 hc:H cl=some (.lst (cs.map Qc))
 ha:H ak=some (.lst ((IT cs).map Qc))
theorem BkAt.same {CB:Addr} {H H':Hp} {p cl ak:Addr} {cs:List Cv} (h:BkAt CB H p cl ak cs) (s:Same H H'):BkAt CB H' p cl ak cs:=by
 obtain⟨⟨dx,fs,e,r⟩,h1,h2⟩:=h;exact⟨⟨dx,fs,s _ _ e,r⟩,s _ _ h1,s _ _ h2⟩
def Yf (C CB:Addr):Sp:=fun vs H Q _=>∃ p dx a cs,vs=[.ref p,.ref a]/\H p=some (.ins CB dx [])/\H a=some (.lst (cs.map Qc))/\CvsAt C H cs/\cs.length<=8/\(cs.map (·.2.1)).Nodup /\
 ∀ cl ak H',KB p H H'->BkAt CB H' p cl ak cs->H cl=none->H ak=none->Q .non H'
theorem Fg {α:Type} {l:List α} {f:α->Bool} {i:Nat} {x:α} (h:l[i]?=some x):(l.take (i+1)).filter f=(l.take i).filter f++if f x=true then [x] else []:=by
 rw[Bu h,zBj];by_cases c:f x=true
 ·rw[if_pos c,zBK c,zBP]
 ·rw[if_neg c,zBL c,zBP]
section
variable {P:Program} {w:World} {K:zAa} {mg:Str->Option Value} {base:Heap} {Ac Ag Ah Am Au Bb Ba At Ad Aw Ak Aj Bg Ai Az Aq:Addr}
theorem Op:Bd ["self", "covers", "names", "firm", "waiting"] ["self", "covers"] (As Fr):=⟨rfl,rfl,rfl,by decide +kernel,rfl,by decide +kernel,by decide +kernel⟩
theorem Nr {f:Addr} {fd:zCG} (F:Fun K "__init__" "Book.__init__" Fr f fd) (T:Txt K mg) (L:Kl K mg Ac Ag Ah Am Au Bb Ba At Ad Aw Ak Aj Bg Ai Az Aq):FnOk P w K mg base Da 1 f fd ["self", "covers"] (Yf Ai Az):=by
 have sc:=Op;refine F.ok sc (fun vs H Q E h=>?_) (fun cdv A outer s H vs Q E hr h=>?_)
 ·obtain⟨_,_,_,_,rfl,_⟩:=h
  rfl
 obtain⟨p,dx,a,cs,rfl,hp,ha,hcs,l8,nd,q⟩:=h;have l60:cs.length<60:=by lia
 refine⟨_,(Ae (Bw (Bj Vt (Bn Cc rfl T.n_len (show zCF _=some (.builtin "len") from rfl) (Aa (pv 1) Af)) (Dm T.g_MOST_COVERS rfl) (Bm _))
    (Ao Ew)
    Bl)
   (Ae (Fa (NC:=["cover"]) (own:=["cover"]) (cs:=[]) (ix:=[]) (j:=2) sc.nd rfl rfl rfl (CompScope.of rfl) rfl trivial (Bt (pv 1)) (fun _ _ _=>(Ay (i:=0) (show (["cover"]:List Str).Nodup from by decide +kernel) rfl (Or.inl rfl))) (fun _ _ _=>Cu) (fun _ _ _=>(Ki (K:=K) (pv 0) rfl)))
   (Ae (Bw (Bj Fk (X1 (pv 2) rfl rfl T.n_len rfl T.n_set) (Bn Cc rfl T.n_len (show zCF _=some (.builtin "len") from rfl) (Aa (pv 2) Af)) (Bm _))
    (Ao Ew)
    Bl)
   (Ae (Ct (pv 0) (Ep Dp rfl T.n_list (show zCF _=some (.type "list") from rfl) (Aa (pv 1) Af)) rfl)
   (Ae (Fa (NC:=["cover"]) (own:=["cover"]) (cs:=[]) (ix:=[]) (j:=3) sc.nd rfl rfl rfl (CompScope.of rfl) rfl trivial (Bt (pv 1)) (fun _ _ _=>(Ay (i:=0) (show (["cover"]:List Str).Nodup from by decide +kernel) rfl (Or.inl rfl))) (fun _ _ _=>(Fh (Dc (Cn (Ki (K:=K) (pv 0) rfl))))) (fun _ _ _=>(pv 0)))
   (Ae (Fa (NC:=["cover"]) (own:=["cover"]) (cs:=[]) (ix:=[]) (j:=4) sc.nd rfl rfl rfl (CompScope.of rfl) rfl trivial (Bt (pv 1)) (fun _ _ _=>(Ay (i:=0) (show (["cover"]:List Str).Nodup from by decide +kernel) rfl (Or.inl rfl))) (fun _ _ _=>(Fh (Cn (Ki (K:=K) (pv 0) rfl)))) (fun _ _ _=>(pv 0)))
   (Ao (Ct (pv 0) (Bc Kb (pv 3) (pv 4)) rfl)))))))),?_⟩
 have one:1<=sizeLine:=by rw[zCE]; decide
 have k0:KB p H H:=fun _ _ e _=>e;have lm:(cs.map Qc).length=cs.length:=zAb _;have nap:a≠p:=Iz ha hp (by intro z; cases z);refine (vE rfl ⟨a,_,rfl,.inl (SqL.of ha),vF rfl rfl (vE rfl ?_)⟩);refine dF (by rw[lm]; lia) ?_;refine (vE rfl ⟨a,rfl,⟨_,SqL.of ha⟩,fun n nn=>?_⟩);refine Cb (K:=K) (a:=a) (xs:=cs.map Qc) (fun i ys H2=>ys=((cs.take i).map (·.2.1)).map V.str/\H2 n=some (.lst ys)/\Same H H2) ⟨rfl,Ab,An nn _⟩
  (fun i ys H2 _ ⟨e,h1,s2⟩=>⟨h1,by rw[e,zAb,zAb,zAx]; lia,SqL.of (s2 _ _ ha)⟩) (by rw[zCE]; lia) (fun i x ys H2 hi ⟨e,h1,s2⟩=>?_) (fun ys H2 ⟨e,h1,s2⟩=>?_)
 ·obtain⟨c,dc,fc,ec,rfl,mc,hc,n1,w1⟩:=hcs.get hi
  refine (vE rfl ⟨c.1,Ai,dc,fc,_,rfl,s2 _ _ hc,L.cl_Cover,L.na_Cover_name,n1,h1,rfl,?_,Ab,fun b o z=>?_⟩)
  ·rw[Bu ec,zAq,zAq,e]
   rfl
  ·rw[Ar (Ap z nn)]
   exact s2 b o z
 rw[lm,zAA] at e;subst e;refine Dr [some (.ref p),some (.ref a),some (.ref n),none,none] rfl ?_;have hp2:=s2 _ _ hp;have ha2:=s2 _ _ ha;have k2:KB p H H2:=k0.same s2;have hcs2:=hcs.same s2;refine (vE rfl ⟨n,cs.map (·.2.1),rfl,SqL.of h1,by rw[zAb]; exact l60,fun m m1 m2=>?_⟩);refine (vE rfl ⟨n,_,rfl,.inl (SqL.of h1),vF rfl rfl (vE rfl ?_)⟩);have:=m1 nd;refine dF (by rw[zAb]; lia) ?_;clear m1 m2 this;refine (vE rfl ⟨a,_,rfl,.inl (SqL.of ha2),fun cl ncl=>?_⟩);have s3:=An ncl (.lst (cs.map Qc));have ncp:cl≠p:=(Ap hp2 ncl).symm;refine (vE rfl ⟨p,Az,dx,[],rfl,s3 _ _ hp2,L.cl_Book,L.na_Book_covers,by decide,?_⟩);have k3:KB p H (upd (upd H2 cl (.lst (cs.map Qc))) p (.ins Az dx (Bs "covers" (.ref cl) []))):=(k2.same s3).upd _;have e3:upd (upd H2 cl (.lst (cs.map Qc))) p (.ins Az dx (Bs "covers" (.ref cl) [])) p=some (.ins Az dx (Bs "covers" (.ref cl) [])):=Ab;have c3:upd (upd H2 cl (.lst (cs.map Qc))) p (.ins Az dx (Bs "covers" (.ref cl) [])) cl=some (.lst (cs.map Qc)):=by rw[Ar ncp,Ab]
 have fcl:H cl=none:=k2.free ncp ncl;have hcs3:=hcs.kb hp k3;have ha3:=k3 _ _ ha nap;generalize upd (upd H2 cl (.lst (cs.map Qc))) p (.ins Az dx (Bs "covers" (.ref cl) []))=H3 at k3 e3 c3 hcs3 ha3;refine (vE rfl ⟨a,rfl,⟨_,SqL.of ha3⟩,fun fi nfi=>?_⟩);refine Cb (K:=K) (a:=a) (xs:=cs.map Qc) (fun i ys H4=>ys=((cs.take i).filter (fun c => !c.2.2)).map Qc/\H4 fi=some (.lst ys)/\Same H3 H4) ⟨rfl,Ab,An nfi _⟩
  (fun i ys H4 _ ⟨e,h1,s4⟩=>⟨h1,by rw[e,zAb]; exact zAG (zAI _ _) (by rw[zAx]; lia),SqL.of (s4 _ _ ha3)⟩) (by rw[zCE]; lia) (fun i x ys H4 hi ⟨e,h1,s4⟩=>?_) (fun ys H4 ⟨e,hf4,s4⟩=>?_)
 ·obtain⟨c,dc,fc,ec,rfl,mc,hc,n1,w1⟩:=hcs3.get hi
  refine (vE rfl ⟨c.1,Ai,dc,fc,_,rfl,s4 _ _ hc,L.cl_Cover,L.na_Cover_waits,w1,_,rfl,?_⟩);have es:=Fg (f:=fun c:Cv => !c.2.2) ec;cases cw:c.2.2 with
  | true=>
   refine Dq ⟨rfl,?_,h1,s4⟩;rw[es,e,cw];simp
  | false=>
   refine Kn (vE rfl ⟨h1,rfl,?_,Ab,fun b o z=>?_⟩)
   ·rw[es,e,cw]
    simp [Qc]
   ·rw[Ar (Ap z nfi)]
    exact s4 b o z
 rw[lm,zAA] at e;subst e;refine Dr [some (.ref p),some (.ref a),some (.ref n),some (.ref fi),none] rfl ?_;have ha4:=s4 _ _ ha3;have hcs4:=hcs3.same s4;refine (vE rfl ⟨a,rfl,⟨_,SqL.of ha4⟩,fun wa nwa=>?_⟩);refine Cb (K:=K) (a:=a) (xs:=cs.map Qc) (fun i ys H5=>ys=((cs.take i).filter (fun c=>c.2.2)).map Qc/\H5 wa=some (.lst ys)/\Same H4 H5) ⟨rfl,Ab,An nwa _⟩
  (fun i ys H5 _ ⟨e,h1,s5⟩=>⟨h1,by rw[e,zAb]; exact zAG (zAI _ _) (by rw[zAx]; lia),SqL.of (s5 _ _ ha4)⟩) (by rw[zCE]; lia) (fun i x ys H5 hi ⟨e,h1,s5⟩=>?_) (fun ys H5 ⟨e,hw5,s5⟩=>?_)
 ·obtain⟨c,dc,fc,ec,rfl,mc,hc,n1,w1⟩:=hcs4.get hi
  refine (vE rfl ⟨c.1,Ai,dc,fc,_,rfl,s5 _ _ hc,L.cl_Cover,L.na_Cover_waits,w1,_,rfl,?_⟩);have es:=Fg (f:=fun c:Cv=>c.2.2) ec;cases cw:c.2.2 with
  | false=>
   refine Dq ⟨rfl,?_,h1,s5⟩;rw[es,e,cw];simp
  | true=>
   refine Kn (vE rfl ⟨h1,rfl,?_,Ab,fun b o z=>?_⟩)
   ·rw[es,e,cw]
    simp [Qc]
   ·rw[Ar (Ap z nwa)]
    exact s5 b o z
 rw[lm,zAA] at e;subst e;refine Dr [some (.ref p),some (.ref a),some (.ref n),some (.ref fi),some (.ref wa)] rfl ?_;have hf5:=s5 _ _ hf4;have e5:=s5 _ _ (s4 _ _ e3);have c5:=s5 _ _ (s4 _ _ c3);have k5:=(k3.same s4).same s5;refine (vE rfl (vE rfl ⟨fi,wa,_,_,rfl,rfl,hf5,hw5,?_,fun ak nak=>?_⟩))
 ·rw[zAb,zAb]
  have:=zAI (fun c:Cv => !c.2.2) cs;have:=zAI (fun c:Cv=>c.2.2) cs;rw[zCE]
  lia
 have nkp:ak≠p:=(Ap e5 nak).symm;have s6:=An nak (.lst ((cs.filter (fun c => !c.2.2)).map Qc++(cs.filter (fun c=>c.2.2)).map Qc));have g3:(Bs "covers" (.ref cl) []).length<=1:=Fl _ _ _;refine (vE rfl ⟨p,Az,dx,_,rfl,s6 _ _ e5,L.cl_Book,L.na_Book_asking,zCq g3 (by decide),?_⟩);refine q cl ak _ ((k5.same s6).upd _) ⟨⟨dx,_,Ab,by rw[f1 (by decide +kernel),f0],f0,by rw[f1 (by decide +kernel),f1 (by decide +kernel)]; rfl⟩,?_,?_⟩ fcl (k5.free nkp nak)
 ·rw[Ar ncp]
  exact s6 _ _ c5
 ·rw[Ar nkp,Ab]
  unfold IT;rw[zAq]
end
abbrev Jd:=List (List Dt×V)
def Py (nm:Str) (k:Int) (y:Dt):List Dt:=[.inr nm,.inl k,y]
structure CtAt (CC:Addr) (H:Hp) (p kp:Addr) (kvs:Jd):Prop where
 ob:∃ dx fs,H p=some (.ins CC dx fs)/\fs.lookup ("kept" : Str)=some (.ref kp)/\fs.lookup ("have" : Str)=none/\fs.lookup ("add" : Str)=none
 hk:H kp=some (.dT kvs)
theorem CtAt.same {CC:Addr} {H H':Hp} {p kp:Addr} {kvs:Jd} (h:CtAt CC H p kp kvs) (s:Same H H'):CtAt CC H' p kp kvs:=by
 obtain⟨⟨dx,fs,e,r⟩,h1⟩:=h;exact⟨⟨dx,fs,s _ _ e,r⟩,s _ _ h1⟩
theorem CtAt.ne {CC:Addr} {H:Hp} {p kp:Addr} {kvs:Jd} (h:CtAt CC H p kp kvs):p≠kp:=by
 obtain⟨⟨dx,fs,e,r⟩,h1⟩:=h;exact Iz e h1 (by intro z; cases z)
theorem CtAt.put {CC:Addr} {H:Hp} {p kp:Addr} {kvs:Jd} (h:CtAt CC H p kp kvs) (kvs':Jd):CtAt CC (upd H kp (.dT kvs')) p kp kvs':=by
 have n:=h.ne;obtain⟨⟨dx,fs,e,r⟩,h1⟩:=h;exact⟨⟨dx,fs,by rw[Ar n]; exact e,r⟩,Ab⟩
def Qj (kvs:Jd) (nm:Str) (k:Int) (y:Dt):V:=(Es kvs (Py nm k y)).getD (.int 0)
def EF (CC:Addr):Sp:=fun vs H Q _=>∃ p dx,vs=[.ref p]/\H p=some (.ins CC dx [])/\∀ kp H',KB p H H'->CtAt CC H' p kp []->H kp=none->Q .non H'
def Xb (CC:Addr):Sp:=fun vs H Q _=>∃ p kp kvs nm k y,vs=[.ref p,.str nm,.int k,kV y]/\CtAt CC H p kp kvs/\∀ H',Same H H'->Q (Qj kvs nm k y) H'
def AV (CC:Addr):Sp:=fun vs H Q _=>∃ p kp kvs nm k y,∃ c n:Int,vs=[.ref p,.str nm,.int k,kV y,.int c]/\CtAt CC H p kp kvs/\Qj kvs nm k y = .int n/\kvs.length<900/\∀ H',Same H H'->Q .non (upd H' kp (.dT (Gy kvs (Py nm k y) (.int (n+c)))))
section
variable {P:Program} {w:World} {K:zAa} {mg:Str->Option Value} {base:Heap} {Ac Ag Ah Am Au Bb Ba At Ad Aw Ak Aj Bg Ai Az Aq:Addr}
theorem Li:Bd ["self"] ["self"] (As Er):=⟨rfl,rfl,rfl,by decide +kernel,rfl,by decide +kernel,by decide +kernel⟩
theorem Lg {f:Addr} {fd:zCG} (F:Fun K "__init__" "Counts.__init__" Er f fd) (T:Txt K mg) (L:Kl K mg Ac Ag Ah Am Au Bb Ba At Ad Aw Ak Aj Bg Ai Az Aq):FnOk P w K mg base Da 1 f fd ["self"] (EF Aq):=by
 have sc:=Li;refine F.ok sc (fun vs H Q E h=>?_) (fun cdv A outer s H vs Q E hr h=>?_)
 ·obtain⟨_,_,rfl,_⟩:=h
  rfl
 obtain⟨p,dx,rfl,hp,q⟩:=h;refine⟨_,(Ao (Ct (pv 0) Yw rfl)),?_⟩;intro kp nk;have s1:=An nk (.dT []);have np:kp≠p:=(Ap hp nk).symm;have k0:KB p H H:=fun _ _ e _=>e;refine (vE rfl ⟨p,Aq,dx,[],rfl,s1 _ _ hp,L.cl_Counts,L.na_Counts_kept,by decide,?_⟩);refine q kp _ ((k0.same s1).upd _) ⟨⟨dx,_,Ab,f0,by rw[f1 (by decide +kernel)]; rfl,by rw[f1 (by decide +kernel)]; rfl⟩,?_⟩ nk;rw[Ar np,Ab]
theorem Ql:Bd ["self", "name", "k", "key"] ["self", "name", "k", "key"] (As Ho):=⟨rfl,rfl,rfl,by decide +kernel,rfl,by decide +kernel,by decide +kernel⟩
theorem Sz {f:Addr} {fd:zCG} (F:Fun K "have" "Counts.have" Ho f fd) (T:Txt K mg) (L:Kl K mg Ac Ag Ah Am Au Bb Ba At Ad Aw Ak Aj Bg Ai Az Aq):FnOk P w K mg base Da 1 f fd ["self", "name", "k", "key"] (Xb Aq):=by
 have sc:=Ql;refine F.ok sc (fun vs H Q E h=>?_) (fun cdv A outer s H vs Q E hr h=>?_)
 ·obtain⟨_,_,_,_,_,_,rfl,_⟩:=h
  rfl
 obtain⟨p,kp,kvs,nm,k,y,rfl,ct,q⟩:=h;have hu2:=V1 hr;refine⟨_,(Ao (Be (EA hu2 (Cp (pv 0) rfl) (Cd (Aa (pv 1) (Aa (pv 2) (Aa (pv 3) Af)))) Al ⟨rfl,rfl,rfl,rfl⟩))),?_⟩;obtain⟨⟨dx,fs,hp,b1,_,_⟩,hk⟩:=ct;refine (vE rfl ⟨p,Aq,dx,fs,_,rfl,hp,L.cl_Counts,L.na_Counts_kept,b1,kp,rfl,.inr ⟨kvs,.inl hk⟩,vE rfl (vE rfl (vE rfl ⟨Cf (by show 3<=1000; decide),fun t nt=>?_⟩))⟩);have s1:=An nt (.tup [V.str nm,.int k,kV y]);exact⟨_,DGet.t (k:=Py nm k y) (s1 _ _ hk) Ab,q _ s1⟩
theorem Ua:Bd ["self", "name", "k", "key", "cents"] ["self", "name", "k", "key", "cents"] (As Io):=⟨rfl,rfl,rfl,by decide +kernel,rfl,by decide +kernel,by decide +kernel⟩
theorem Uj {f:Addr} {fd:zCG} (F:Fun K "add" "Counts.add" Io f fd) (T:Txt K mg) (L:Kl K mg Ac Ag Ah Am Au Bb Ba At Ad Aw Ak Aj Bg Ai Az Aq) (Mhave:Ix P w K mg base 1 Aq "have" ["self", "name", "k", "key"] (Xb Aq)):FnOk P w K mg base Da 2 f fd ["self", "name", "k", "key", "cents"] (AV Aq):=by
 have sc:=Ua;refine F.ok sc (fun vs H Q E h=>?_) (fun cdv A outer s H vs Q E hr h=>?_)
 ·obtain⟨_,_,_,_,_,_,_,_,rfl,_⟩:=h
  rfl
 obtain⟨p,kp,kvs,nm,k,y,c,n,rfl,ct,en,l9,q⟩:=h;have hu2:=V1 hr;refine⟨_,(Ao (U3 hu2 (Cp (pv 0) rfl) (Cd (Aa (pv 1) (Aa (pv 2) (Aa (pv 3) Af)))) (Bc Cm (Ec Mhave (hr.mono (by decide)) (pv 0) (Aa (pv 1) (Aa (pv 2) (Aa (pv 3) Af)))) (pv 4)) rfl)),?_⟩;obtain⟨⟨dx,fs,hp,b1,b2,b3⟩,hk⟩:=id ct;refine (vE rfl ⟨p,dx,fs,rfl,hp,b2,_,rfl,vE rfl (vE rfl ⟨p,kp,kvs,nm,k,y,rfl,ct,fun H1 s1=>?_⟩)⟩);rw[en];refine (vE rfl (vF rfl rfl ?_));refine (vE rfl ⟨p,Aq,dx,fs,_,rfl,s1 _ _ hp,L.cl_Counts,L.na_Counts_kept,b1,_,rfl,vE rfl (vE rfl ⟨Cf (by show 3<=1000; decide),fun t nt=>?_⟩)⟩);have s2:=An nt (.tup [V.str nm,.int k,kV y]);exact⟨kp,_,rfl,DPut.t (k:=Py nm k y) (s2 _ _ (s1 _ _ hk)) Ab (by rw[zCE]; lia),q _ (s1.trans s2)⟩
end
def FZ (i:Int):Nat:=97+(i%26).toNat
theorem Rw (i:Int):Fo (FZ i):=by
 unfold Fo FZ;have h0:0<=i%26:=Int.emod_nonneg _ (by decide);have h1:i%26<26:=Int.emod_lt_of_pos _ (by decide)
 lia
theorem BM (i:Int):Nf (Str.ofString "abcdefghijklmnopqrstuvwxyz").cps.toList (i%26)=some (FZ i):=by
 have e:(Str.ofString "abcdefghijklmnopqrstuvwxyz").cps.toList=(zAM 26).map (97 + ·):=by decide +kernel
 have h0:0<=i%26:=Int.emod_nonneg _ (by decide);have h1:i%26<26:=Int.emod_lt_of_pos _ (by decide);obtain⟨k,ek⟩:=Int.eq_ofNat_of_zero_le h0;rw[e];unfold FZ;rw[ek];refine Ey ?_;rw[zAs,List.getElem?_range (by lia)];rfl
theorem R0:(Str.ofString "abcdefghijklmnopqrstuvwxyz").length<=sizeLine:=by
 have e:(Str.ofString "abcdefghijklmnopqrstuvwxyz").length=26:=by decide +kernel
 rw[e];exact Cf (by decide)
theorem Mu {i:Nat} {v:Int} {nx:St->Hp->Prop} {σ:St} {H:Hp} (lo hi:Int) (h0:lo<=v/\v<=hi) (h:∀ x:Int,lo<=x->x<=hi->Fb i (.int x) σ H nx):Fb i (.int v) σ H nx:=h v h0.1 h0.2
theorem md {a b:Int} (h:0<b):0<=a%b/\a%b<=b-1:=⟨Int.emod_nonneg _ (by lia),by have:=Int.emod_lt_of_pos a h; lia⟩
def EU:List Nat:=[115,101,108,102]
theorem U7:Str.ofString "self" = tx EU:=by decide +kernel
theorem OL:Str.ofString "q" = tx [113]:=by decide +kernel
theorem ID {l m:List Nat} (h:tx l=tx m):l=m:=by
 have:=congrArg (fun z=>z.cps.toList) h
 simpa [tx] using this
structure FA (ns:List Str):Prop where
 hi:ns.length<=8
 nd:ns.Nodup
 ok:∀ z∈ns,Pb (.str z)=true/\z.length<=8/\z ≠ "self"
theorem BP (g:Nat->List Nat) {k:Nat} (k8:k<=8) (nm:∀ i,i<k->Tg (g i)) (ns:∀ i,i<k->g i≠EU) (inj:∀ i j,i<k->j<k->g i=g j->i=j):FA ((zAM k).map fun i=>tx (g i)):=by
 refine⟨by rw[zAb,zAQ]; exact k8,?_,fun z hz=>?_⟩
 ·rw[zBs,zBF]
  refine List.Pairwise.imp_of_mem (R:=fun a b=>a≠b) (fun {i j} hi hj n e=>n ?_) (zBs.mp List.nodup_range);exact inj i j (zBt.mp hi) (zBt.mp hj) (ID e)
 ·obtain⟨i,hi,rfl⟩:=zAr.mp hz
  have hi':=zBt.mp hi;have n:=nm i hi';refine⟨decide_eq_true n,by rw[Fx]; exact n.1.2,fun h=>?_⟩;have h':tx (g i)=Str.ofString "self" := h;rw[U7] at h';exact ns i hi' (ID h')
def L8 (c k:Nat):List Nat:=zAz (k+1) c
theorem ES (c m:Nat):(zAz m [c]).flatten=zAz m c:=by
 induction m with
 | zero=>rfl
 | succ m ih=>rw[zBr,zBv,ih,zBr]; rfl
theorem W1 {c k:Nat} (hc:Fo c) (k8:k<=8):FA ((zAM k).map fun i=>tx (L8 c i)):=by
 refine BP (L8 c) k8 (fun i hi=>⟨by unfold L8; rw[zBg]; lia,fun d hd=>?_⟩) (fun i hi z=>?_) (fun i j hi hj e=>?_)
 ·rw[zCr hd]
  exact hc
 ·unfold L8 at z
  have h1:(115:Nat)∈zAz (i+1) c:=by rw[z]; decide
  have h2:(101:Nat)∈zAz (i+1) c:=by rw[z]; decide
  have e1:=zCr h1;have e2:=zCr h2
  lia
 ·have:=congrArg List.length e
  unfold L8 at this;rw[zBg,zBg] at this
  lia
def KQ (m:Int) (a k j:Nat):Nat:=FZ (m+(j:Int)*j+(k:Int)*(if j=a then 1 else 0))
def FD (m:Int) (a n k:Nat):List Nat:=(zAM n).map (KQ m a k)
theorem FT (m:Int) (a n k:Nat):(FD m a n k).length=n:=by unfold FD; rw[zAb,zAQ]
theorem FP {m:Int} {a n k:Nat} (ha:a<n) (n8:n<=8) (k8:k<=8) (h:∀ i,i<k->FD m a n i≠EU):FA ((zAM k).map fun i=>tx (FD m a n i)):=by
 refine BP (FD m a n) k8 (fun i hi=>⟨by rw[FT]; lia,fun c hc=>?_⟩) h (fun i j hi hj e=>?_)
 ·unfold FD at hc
  obtain⟨j,_,rfl⟩:=zAr.mp hc;exact Rw _
 ·have e:=congrArg (fun l=>l[a]?) e
  unfold FD at e;simp only [zAs,List.getElem?_range ha,zCn,Option.some.injEq] at e;unfold KQ FZ at e;simp only [if_true] at e;generalize m+(a:Int)*a=v at e;have a0:0<=(v+(i:Int)*1)%26:=Int.emod_nonneg _ (by decide);have b0:0<=(v+(j:Int)*1)%26:=Int.emod_nonneg _ (by decide)
  lia
theorem in_strs {z:Str} {l:List Str}:E5 (.str z) (l.map V.str)=true↔z∈l:=by
 unfold E5;rw[List.any_map,zCg];constructor
 ·rintro ⟨y,hy,e⟩
  have e':Pq (.str y) (.str z)=true:=e;have:y=z:=by simpa [Pq] using e'
  rw[<- this];exact hy
 ·intro h
  exact⟨z,h,by show Pq (.str z) (.str z)=true; simp [Pq]⟩
def Wk:Sp:=fun vs H Q _=>∃ c k:Int,vs=[.int c,.int k]/\0<=c/\0<=k/\k<=8/\∀ r ns H',Same H H'->H r=none->H' r=some (.lst (ns.map V.str))->FA ns->(ns.length:Int)=k->Q (.ref r) H'
section
seal L2.PS L2.PSs L2.PE L2.PA
variable {P:Program} {w:World} {K:zAa} {mg:Str->Option Value} {base:Heap}
theorem Ug:Bd ["_law_cell_here", "_law_many", "_law_letters", "_law_size", "_law_at", "_law_first", "_law_names_here", "_law_k", "_law_name", "_law_j"] ["_law_cell_here", "_law_many"] (As Il):=⟨rfl,rfl,rfl,by decide +kernel,rfl,by decide +kernel,by decide +kernel⟩
theorem Tw {f:Addr} {fd:zCG} (F:Fun K "_law_names" "_law_names" Il f fd) (T:Txt K mg):FnOk P w K mg base Da 1 f fd ["_law_cell_here", "_law_many"] Wk:=by
 have sc:=Ug;refine F.ok sc (fun vs H Q E h=>?_) (fun cdv A outer s H vs Q E hr h=>?_)
 ·obtain⟨_,_,rfl,_⟩:=h
  rfl
 obtain⟨c,k,rfl,c0,k1,k8,q⟩:=h;refine⟨_,(Ae (Bf (i:=2) sc.nd rfl (Or.inr rfl) Bz)
   (Ae (Bf (i:=3) sc.nd rfl (Or.inl rfl) (Bc Cm Al (Bc Bx (pv 0) Al)))
   (Ae (Bf (i:=4) sc.nd rfl (Or.inl rfl) (Bc Bx (Bc By (pv 0) Al) (pv 3)))
   (Ae (Bf (i:=5) sc.nd rfl (Or.inr rfl) (Bc By (pv 0) Al))
   (Ae (Bw (Bj Di (Bc Bx (Bc By (pv 0) Al) Al) Al (Bm _))
    (Ao (Be (De (NC:=["_law_k", "_law_letters", "_law_first"]) (own:=["_law_k"]) (cs:=["_law_letters", "_law_first"]) (ix:=[2,5]) rfl (CompScope.of rfl) rfl ⟨⟨rfl,.inl rfl,rfl⟩,⟨⟨rfl,.inl rfl,rfl⟩,trivial⟩⟩ (Cz rfl T.n_range (Aa (pv 1) Af)) (fun _ _ _=>(Ay (i:=0) (show (["_law_k", "_law_letters", "_law_first"]:List Str).Nodup from by decide +kernel) rfl (Or.inl rfl))) (fun _ _ _=>Cu) (fun _ _ _=>(Bc Sj (Bh DU (pv 1) (Bc Bx (pv 2) Al) (fun _ _=>rfl)) (Bc Cm (pv 0) Al))))))
    Bl)
   (Ae (Bf (i:=6) sc.nd rfl (Or.inl rfl) (Ci Af))
   (Ae (Ck PassesOwn.never rfl (Cz rfl T.n_range (Aa (pv 1) Af)) (Ay (i:=7) sc.nd rfl (Or.inl rfl))
    (Ae (Bf (i:=8) sc.nd rfl (Or.inl rfl) Bz)
   (Ae (Ck PassesOwn.never rfl (Cz rfl T.n_range (Aa (pv 3) Af)) (Ay (i:=9) sc.nd rfl (Or.inl rfl))
    (Ao (Bf (i:=8) sc.nd rfl (Or.inl rfl) (Bc Gf (pv 8) (Bh DU (pv 2) (Bc Bx (Bc Cm (Bc Cm (pv 5) (Bc Dy (pv 9) (pv 9))) (Bc Dy (pv 7) (Ep AF rfl T.n_int (show zCF _=some (.type "int") from rfl) (Aa (Ga Di (pv 9) (pv 4) (Bm _)) Af)))) Al) (fun _ _=>rfl))))))
   (Ao (Cr (Gk PySem.F.plainAttrs_list PySem.F.slot_list_append PySem.F.type_list_append Do (pv 6) (Aa (pv 8) Af)))))))
   (Ae (Bw (Bj Nq Bz (pv 6) rfl)
    (Ao (Be (De (NC:=["_law_k"]) (own:=["_law_k"]) (cs:=[]) (ix:=[]) rfl (CompScope.of rfl) rfl trivial (Cz rfl T.n_range (Aa (pv 1) Af)) (fun _ _ _=>(Ay (i:=0) (show (["_law_k"]:List Str).Nodup from by decide +kernel) rfl (Or.inl rfl))) (fun _ _ _=>Cu) (fun _ _ _=>(Bc Sj Bz (Bc Cm (pv 0) Al))))))
    Bl)
   (Ao (Be (pv 6))))))))))),?_⟩
 have m0:0<=c%8:=Int.emod_nonneg _ (by decide);have m8:c%8<8:=Int.emod_lt_of_pos _ (by decide);refine (vE rfl (vF rfl rfl ⟨(by show (0:Int)<8; decide),_,_,rfl,rfl,?_⟩));refine Mu 1 8 ⟨by lia,by lia⟩ fun sz z1 z8=>?_;obtain⟨n,rfl⟩:=Int.eq_ofNat_of_zero_le (show 0<=sz by lia);refine (vE rfl (vF rfl rfl ⟨⟨by decide,by decide⟩,_,rfl,vF rfl rfl ⟨(by show (0:Int)<(n:Int); lia),?_⟩⟩));refine Mu 0 ((n:Int)-1) (md (by lia)) fun at' at0 at1=>?_;obtain⟨a,rfl⟩:=Int.eq_ofNat_of_zero_le at0;have ha:a<n:=by lia
 refine (vE rfl (vF rfl rfl ⟨⟨by decide,by decide⟩,?_⟩));refine Dr [some (.int c),some (.int k),some (.str "abcdefghijklmnopqrstuvwxyz"),some (.int n),some (.int a),some (.int (c/320)),none,none,none,none] rfl ?_;generalize c/320=m;refine (vE rfl (vF rfl rfl ⟨⟨by decide,by decide⟩,_,_,rfl,rfl,(by show (0:Int)<5; decide),rfl,vE rfl ?_⟩));by_cases c5:c/64%5=1
 ·-- one Fo,more and more often
  refine dT (congrArg V.int c5) (vE rfl (vE rfl ⟨by lia,by lia,fun r nr=>?_⟩));refine Go (lo:=0) (n:=k.toNat) (fun i ys H2=>ys=((zAM i).map fun i=>tx (L8 (FZ m) i)).map V.str/\H2 r=some (.lst ys)/\Same H H2) ⟨rfl,Ab,An nr _⟩
   (fun i ys H2 _ ⟨e,h1,_⟩=>⟨h1,by rw[e,zAb,zAb,zAQ]; exact zAl _⟩) (by rw[zCE]; lia) (fun i ys H2 hi ⟨e,h1,s1⟩=>?_) (fun ys H2 ⟨e,h1,s1⟩=>?_)
  ·refine (vE rfl (vE rfl (vF rfl rfl ⟨(by show (0:Int)<26; decide),_,_,_,rfl,rfl,R0,BM _,_,rfl,vF rfl rfl ⟨[FZ m],_,rfl,rfl,by lia,by lia,(show 1<=1000 from by decide),h1,rfl,?_,Ab,fun x o z=>?_⟩⟩)))
   ·rw[e,ES,show (0+(i:Int)+1).toNat=i+1 by lia,zBO,zAq,zAq]
    rfl
   ·rw[Ar (Ap z nr)]
    exact s1 x o z
  subst e;exact q r _ H2 s1 nr h1 (W1 (Rw m) (by lia)) (by rw[zAb,zAQ]; lia)
 refine dF (fun z=>c5 (V.int.inj z)) ?_;refine⟨zAD _,fun r nr=>?_⟩;have s1:=An nr (.lst []);refine (vE rfl (vE rfl ⟨by lia,by lia,?_⟩));refine En (lo:=0) (n:=k.toNat)
  (fun i σ H3=>(∃ o7 o8 o9:Option V,σ=[some (.int c),some (.int k),some (.str "abcdefghijklmnopqrstuvwxyz"),some (.int n),some (.int a),some (.int m),some (.ref r),o7,o8,o9])/\H3 r=some (.lst (((zAM i).map fun i=>tx (FD m a n i)).map V.str))/\Same H H3)
  ⟨⟨none,none,none,rfl⟩,Ab,s1⟩ ?_ ?_
 ·rintro i σ H3 hi ⟨⟨o7,o8,o9,rfl⟩,h3,s3⟩
  have i8:i<8:=by lia
  rw[show (0+(i:Int))=(i:Int) by lia];refine (vE rfl (vE rfl ⟨by lia,by lia,?_⟩));refine En (lo:=0) (n:=(n:Int).toNat) (fun j σ H4=>(∃ o9,σ=[some (.int c),some (.int k),some (.str "abcdefghijklmnopqrstuvwxyz"),some (.int n),some (.int a),some (.int m),some (.ref r),some (.int i),some (.str (tx ((zAM j).map (KQ m a i)))),o9])/\H4=H3) ⟨⟨o9,rfl⟩,rfl⟩ ?_ ?_
  ·rintro j σ H4 hj ⟨⟨o9',rfl⟩,rfl⟩
   have hj':j<n:=by lia
   rw[show (0+(j:Int))=(j:Int) by lia];refine (vE rfl (vE rfl (vE rfl (vE rfl (vE rfl (vF rfl rfl ⟨.inl ⟨by lia,by lia⟩,vF rfl rfl (vE rfl (vE rfl (vE rfl ⟨rfl,.inr (vE rfl (vF rfl rfl ⟨.inl ⟨by lia,by lia⟩,vF rfl rfl (vF rfl rfl ⟨(by show (0:Int)<26; decide),_,_,_,rfl,rfl,R0,BM _,_,_,rfl,rfl,?_,⟨some (.int j),?_⟩,rfl⟩)⟩))⟩)))⟩))))))
   ·rw[Fx,zAb,zAQ,zCE]
    show j+1<=_
    lia
   ·have e1:(if decide (V.int (j:Int)=V.int (a:Int))=true then (1:Int) else 0)=if j=a then 1 else 0:=by
     by_cases z:j=a
     ·rw[if_pos z,if_pos (decide_eq_true (by rw[z]))]
     ·rw[if_neg z,if_neg (fun y=>z (by have:=V.int.inj (of_decide_eq_true y); lia))]
    have e2:tx ((zAM j).map (KQ m a i))++(⟨#[FZ (m+(j:Int)*j+(i:Int)*(if decide (V.int (j:Int)=V.int (a:Int))=true then (1:Int) else 0))]⟩:Str)=tx ((zAM (j+1)).map (KQ m a i)):=by
     rw[e1,zBO,zAq];exact Sh _ [_]
    exact congrArg (fun z=>[some (V.int c),some (V.int k),some (V.str "abcdefghijklmnopqrstuvwxyz"),some (V.int n),some (V.int a),some (V.int m),some (V.ref r),some (V.int i),some (V.str z),some (V.int j)]) e2
  ·rintro σ H4 ⟨⟨o9',rfl⟩,rfl⟩
   have el:(zAM (n:Int).toNat).map (KQ m a i)=FD m a n i:=by rw[Int.toNat_natCast]; rfl
   rw[el];refine (vE rfl ⟨.inl ⟨rfl,_,SqL.of h3⟩,vE rfl ⟨r,_,_,rfl,rfl,h3,?_,⟨⟨_,_,_,rfl⟩,?_,fun x o z=>?_⟩⟩⟩)
   ·rw[zAb,zAb,zAQ,zCE]
    lia
   ·rw[Ab,zBO,zAq,zAq]
    rfl
   ·rw[Ar (Ap z nr)]
    exact s3 x o z
 ·rintro σ H3 ⟨⟨o7,o8,o9,rfl⟩,h3,s3⟩
  refine (vE rfl ⟨r,_,rfl,.inl (SqL.of h3),rfl,Vy _,_,rfl,?_⟩);by_cases cs:(Str.ofString "self")∈(zAM k.toNat).map fun i=>tx (FD m a n i)
  ·refine bT (in_strs.mpr cs) (vE rfl (vE rfl ⟨by lia,by lia,fun r2 nr2=>?_⟩))
   refine Go (lo:=0) (n:=k.toNat) (fun i ys H4=>ys=((zAM i).map fun i=>tx (L8 113 i)).map V.str/\H4 r2=some (.lst ys)/\Same H3 H4) ⟨rfl,Ab,An nr2 _⟩
    (fun i ys H4 _ ⟨e,h1,_⟩=>⟨h1,by rw[e,zAb,zAb,zAQ]; exact zAl _⟩) (by rw[zCE]; lia) (fun i ys H4 hi ⟨e,h1,s4⟩=>?_) (fun ys H4 ⟨e,h1,s4⟩=>?_)
   ·refine (vE rfl (vF rfl rfl ⟨[113],_,congrArg V.str OL,rfl,by lia,by lia,(show 1<=1000 from by decide),h1,rfl,?_,Ab,fun x o z=>?_⟩))
    ·rw[e,ES,show (0+(i:Int)+1).toNat=i+1 by lia,zBO,zAq,zAq]
     rfl
    ·rw[Ar (Ap z nr2)]
     exact s4 x o z
   subst e;exact q r2 _ H4 (s3.trans s4) (s3.free nr2) h1 (W1 (by unfold Fo; decide) (by lia)) (by rw[zAb,zAQ]; lia)
  ·refine bF (zBf.mpr fun z=>cs (in_strs.mp z)) (vE rfl ?_)
   refine q r _ H3 s3 nr h3 (FP ha (by lia) (by lia) fun i hi e=>cs ?_) (by rw[zAb,zAQ]; lia);refine zAr.mpr ⟨i,zBt.mpr hi,?_⟩;rw[e,<- U7]
end
def Jn:Sp:=fun vs H Q _=>∃ c:Int,vs=[.int c]/\∀ r:Int,0<=r->r<=2147483646->Q (.int r) H
section
variable {P:Program} {w:World} {K:zAa} {mg:Str->Option Value} {base:Heap}
theorem Td:Bd ["_law_cell_here"] ["_law_cell_here"] (As Hi):=⟨rfl,rfl,rfl,by decide +kernel,rfl,by decide +kernel,by decide +kernel⟩
theorem Su {f:Addr} {fd:zCG} (F:Fun K "_law_spread" "_law_spread" Hi f fd) (T:Txt K mg):FnOk P w K mg base Da 1 f fd ["_law_cell_here"] Jn:=by
 have sc:=Td;refine F.ok sc (fun vs H Q E h=>?_) (fun cdv A outer s H vs Q E hr h=>?_)
 ·obtain⟨_,rfl,_⟩:=h
  rfl
 obtain⟨c,rfl,q⟩:=h;refine⟨_,(Ao (Be (Bc Bx (Bc Dy (pv 0) Al) Al))),?_⟩;refine (vE rfl (vF rfl rfl ⟨.inr ⟨by decide,by decide⟩,vF rfl rfl ⟨(by show (0:Int)<2147483647; decide),?_⟩⟩));have b:=md (a:=c*48271) (b:=2147483647) (by decide);exact q _ b.1 (by have:=b.2; lia)
end
structure LF where
 n:Int
 d:Int
 ev:Str
 th:Str
 ca:Str
 ct:Int
def LF.vs (z:LF):List V:=[.int z.n,.int z.d,.str z.ev,.str z.th,.str z.ca,.int z.ct]
def LF.ls (z:LF):LS:=⟨z.d,z.th,z.ca,z.ct⟩
theorem LU {H:Hp} {l:Addr} {z:LF} (h:H l=some (.tup z.vs)):ML H l z.ls:=⟨z.ev,z.n,h⟩
structure Cvx where
 p:Addr
 nm:Str
 t:Gw
 cs:List Cl
 wt:Bool
def xV (x:Cvx):V:=.ref x.p
def CvxAt (κ:A8) (CC CO CL CM C:Addr) (H:Hp) (x:Cvx):Prop:=∃ dx fs cv cl xs,H x.p=some (.ins C dx fs)/\fs.lookup ("name" : Str)=some (.str x.nm)/\fs.lookup ("condition" : Str)=some cv/\fs.lookup ("clauses" : Str)=some (.ref cl)/\fs.lookup ("waits" : Str)=some (.bl x.wt)/\noM5 fs /\
 CdAt κ H cv x.t/\H cl=some (.lst xs)/\Cls4 CC CO CL CM H xs x.cs/\x.cs.length<=8
theorem CvxAt.same {κ:A8} {CC CO CL CM C:Addr} {H H':Hp} {x:Cvx} (h:CvxAt κ CC CO CL CM C H x) (s:Same H H'):CvxAt κ CC CO CL CM C H' x:=by
 obtain⟨dx,fs,cv,cl,xs,e,a1,a2,a3,a4,a5,a6,a7,a8,a9⟩:=h;exact⟨dx,fs,cv,cl,xs,s _ _ e,a1,a2,a3,a4,a5,CdAt.same s _ a6,s _ _ a7,a8.mono (Na s),a9⟩
def Rm (y:Str) (z:LF):Dt:=if y = "event" then .inr z.ev else if y = "thing" then .inr z.th else if y = "year" then .inl (z.d/365) else .inl z.n
theorem JV (y:Str) (z:LF):HH y z.n z.d z.ev z.th=kV (Rm y z):=by
 unfold HH Rm;by_cases c1:y = "event"
 ·rw[if_pos c1,if_pos c1]; rfl
 rw[if_neg c1,if_neg c1];by_cases c2:y = "thing"
 ·rw[if_pos c2,if_pos c2]; rfl
 rw[if_neg c2,if_neg c2];by_cases c3:y = "year"
 ·rw[if_pos c3,if_pos c3]; rfl
 rw[if_neg c3,if_neg c3]; rfl
def IntV (kvs:Jd):Prop:=∀ k v,Es kvs k=some v->∃ n:Int,v = .int n
theorem IntV.have {kvs:Jd} (h:IntV kvs) (nm:Str) (k:Int) (y:Dt):∃ n:Int,Qj kvs nm k y = .int n:=by
 unfold Qj;cases z:Es kvs (Py nm k y) with
 | none=>exact⟨0,rfl⟩
 | some v=>
  obtain⟨n,rfl⟩:=h _ _ z;exact⟨n,rfl⟩
def HL:V->Int
 | .int n=>n
 | _=>0
def Lz (kvs:Jd) (nm:Str) (z:LF) (cs:List Cl) (i:Nat):List Int:=(zAM i).map fun (j:Nat)=>HL (Qj kvs nm (j:Int) (Rm ((cs[j]?).getD (.any "")).way z))
def numsOf (kvs:Jd) (z:LF) (x:Cvx):List Int:=Lz kvs x.nm z x.cs x.cs.length
theorem C2 (kvs:Jd) (z:LF) (x:Cvx):(numsOf kvs z x).length=x.cs.length:=by unfold numsOf Lz; rw[zAb,zAQ]
def E6 (κ:A8) (CC CO CL CM C:Addr) (m:Nat):Sp:=fun vs H Q _=>∃ x l,∃ z:LF,vs=[.ref x.p,.ref l]/\CvxAt κ CC CO CL CM C H x/\Ow x.t<m/\H l=some (.tup z.vs)/\Q (.bl (hT x.t z.ls)) H
def N0 (κ:A8) (CC CO CL CM C CN:Addr):Sp:=fun vs H Q _=>∃ x cp kp kvs l z,vs=[.ref x.p,.ref cp,.ref l]/\CvxAt κ CC CO CL CM C H x/\CtAt CN H cp kp kvs/\IntV kvs/\H l=some (.tup (LF.vs z))/\∀ r H',Same H H'->H r=none->H' r=some (.lst ((numsOf kvs z x).map V.int))->Q (.ref r) H'
def AskAt (κ:A8) (CC CO CL CM C CB:Addr) (H:Hp) (b:Addr) (bs:List Cvx):Prop:=∃ dx fs ak,H b=some (.ins CB dx fs)/\fs.lookup ("asking" : Str)=some (.ref ak)/\H ak=some (.lst (bs.map xV))/\∀ x∈bs,CvxAt κ CC CO CL CM C H x
def Jy (z:LF) (bs:List Cvx):List Cvx:=bs.filter fun x=>hT x.t z.ls
def Yh (κ:A8) (CC CO CL CM C CB:Addr) (m:Nat):Sp:=fun vs H Q _=>∃ b l bs z,vs=[.ref b,.ref l]/\AskAt κ CC CO CL CM C CB H b bs/\(∀ x∈bs,Ow x.t<m)/\bs.length<=60/\H l=some (.tup (LF.vs z))/\∀ r H',Same H H'->H r=none->H' r=some (.lst ((Jy z bs).map xV))->Q (.ref r) H'
section
variable {P:Program} {w:World} {K:zAa} {mg:Str->Option Value} {base:Heap} {Ac Ag Ah Am Au Bb Ba At Ad Aw Ak Aj Bg Ai Az Aq:Addr}
theorem Ui:Bd ["self", "loss"] ["self", "loss"] (As Ik):=⟨rfl,rfl,rfl,by decide +kernel,rfl,by decide +kernel,by decide +kernel⟩
theorem Ts {f:Addr} {fd:zCG} (F:Fun K "asks" "Cover.asks" Ik f fd) (T:Txt K mg) (L:Kl K mg Ac Ag Ah Am Au Bb Ba At Ad Aw Ak Aj Bg Ai Az Aq) {m:Nat} (Mholds:Ph P w K mg base m (A8.Fam (A8.mk Ac Ag Ah Am Au Bb Ba At)) "holds" ["self", "loss"] (Ds (A8.mk Ac Ag Ah Am Au Bb Ba At) m)):FnOk P w K mg base Da (m+1) f fd ["self", "loss"] (E6 (A8.mk Ac Ag Ah Am Au Bb Ba At) Ad Aw Ak Aj Ai m):=by
 have sc:=Ui;refine F.ok sc (fun vs H Q E h=>?_) (fun cdv A outer s H vs Q E hr h=>?_)
 ·obtain⟨_,_,_,rfl,_⟩:=h
  rfl
 obtain⟨x,l,z,rfl,⟨dx,fs,cv,cl,xs,e,a1,a2,a3,a4,a5,a6,_⟩,hm,hl,q⟩:=h;refine⟨_,(Ao (Be (Gi Mholds (hr.mono (by omega)) (Cp (pv 0) rfl) (Aa (pv 1) Af)))),?_⟩;obtain⟨cp,dc,fc,rfl,hc,n1,_⟩:=a6.obj;exact (vE rfl ⟨x.p,Ai,dx,fs,_,rfl,e,L.cl_Cover,L.na_Cover_condition,a2,cp,_,dc,fc,rfl,hc,A8.fam _ x.t,n1,_,rfl,cp,x.t,l,z.ls,rfl,a6,rfl,hm,LU hl,q⟩)
theorem Uh:Bd ["cover", "counts", "loss"] ["cover", "counts", "loss"] (As Ip):=⟨rfl,rfl,rfl,by decide +kernel,rfl,by decide +kernel,by decide +kernel⟩
theorem Ul {f:Addr} {fd:zCG} (F:Fun K "numbers_of" "numbers_of" Ip f fd) (T:Txt K mg) (L:Kl K mg Ac Ag Ah Am Au Bb Ba At Ad Aw Ak Aj Bg Ai Az Aq) (Mkey:Ph P w K mg base 2 (Fam Ad Aw Ak Aj) "key" ["self", "loss"] (CW Ad Aw Ak Aj)) (Mhave:Ix P w K mg base 1 Aq "have" ["self", "name", "k", "key"] (Xb Aq)) :
  FnOk P w K mg base Da 3 f fd ["cover", "counts", "loss"] (N0 (A8.mk Ac Ag Ah Am Au Bb Ba At) Ad Aw Ak Aj Ai Aq):=by
 have sc:=Uh;refine F.ok sc (fun vs H Q E h=>?_) (fun cdv A outer s H vs Q E hr h=>?_)
 ·obtain⟨_,_,_,_,_,_,rfl,_⟩:=h
  rfl
 obtain⟨x,cp,kp,kvs,l,z,rfl,cx,ct,iv,hl,q⟩:=h;refine⟨_,(Ao (Be (De (NC:=["k", "clause", "counts", "cover", "loss"]) (own:=["k", "clause"]) (cs:=["counts", "cover", "loss"]) (ix:=[1,0,2]) rfl (CompScope.of rfl) rfl ⟨⟨rfl,.inl rfl,rfl⟩,⟨⟨rfl,.inl rfl,rfl⟩,⟨⟨rfl,.inl rfl,rfl⟩,trivial⟩⟩⟩ (Mn rfl T.n_enumerate (Aa (Cp (pv 0) rfl) Af)) (fun _ _ _=>(V5 (K:=K) (n:=2) rfl rfl (Bk (Ay (i:=0) (show (["k", "clause", "counts", "cover", "loss"]:List Str).Nodup from by decide +kernel) rfl (Or.inl rfl)) (Bk (Ay (i:=1) (show (["k", "clause", "counts", "cover", "loss"]:List Str).Nodup from by decide +kernel) rfl (Or.inl rfl)) Dh)))) (fun _ _ _=>Cu) (fun _ _ _=>(Ec Mhave (hr.mono (by decide)) (pv 2) (Aa (Ki (K:=K) (pv 3) rfl) (Aa (pv 0) (Aa (Gi Mkey (hr.mono (by decide)) (pv 1) (Aa (pv 4) Af)) Af)))))))),?_⟩;obtain⟨dx,fs,cv,cl,xs,e,a1,a2,a3,a4,a5,a6,hcl,cc,l8⟩:=id cx;have lx:=cc.len;refine (vE rfl ⟨x.p,Ai,dx,fs,_,rfl,e,L.cl_Cover,L.na_Cover_clauses,a3,cl,rfl,⟨_,SqL.of hcl⟩,fun b nb=>?_⟩);refine Vj (K:=K) (a:=cl) (xs:=xs) (fun i ys H2=>ys=(Lz kvs x.nm z x.cs i).map V.int/\H2 b=some (.lst ys)/\Same H H2) ⟨rfl,Ab,An nb _⟩
  (fun i ys H2 _ ⟨e,x1,x2⟩=>⟨x1,by rw[e,zAb]; unfold Lz; rw[zAb,zAQ]; exact zAl _,SqL.of (x2 _ _ hcl)⟩) (by rw[zCE]; lia) (fun i v ys H2 t hi ⟨e2,x1,x2⟩ ht=>?_) (fun ys H2 ⟨e2,x1,x2⟩=>?_)
 ·obtain⟨o,c,hc,rfl,ho⟩:=cc.get hi
  have s3:=x2.trans (An ht (.tup [.int i,.ref o]));have ho3:=ho.same s3;obtain⟨od,ho4⟩:=id ho3;have ct3:=ct.same s3;obtain⟨⟨dc,fc,hcp,b1,b2,b3⟩,_⟩:=id ct3;obtain⟨n,en⟩:=iv.have x.nm (i:Int) (Rm c.way z);refine (vE rfl ⟨cp,dc,fc,rfl,hcp,b2,_,rfl,x.p,Ai,dx,fs,_,rfl,s3 _ _ e,L.cl_Cover,L.na_Cover_name,a1,_,rfl,vE rfl ⟨o,_,od,_,rfl,ho4,F1 _ _ _ _ c,JG c,_,rfl,o,c,l,z.ev,z.th,z.ca,z.n,z.d,z.ct,rfl,ho3,rfl,s3 _ _ hl,cp,kp,kvs,x.nm,(i:Int),Rm c.way z,by rw[JV]; rfl,ct3,fun H4 s4=>?_⟩⟩);rw[en];refine⟨s4 _ _ (An ht _ _ _ x1),rfl,?_,Ab,fun y ob w=>?_⟩
  ·have em:Lz kvs x.nm z x.cs (i+1)=Lz kvs x.nm z x.cs i++[n]:=by
    unfold Lz;rw[zBO,zAq];simp [hc,en,HL]
   rw[em,zAq,e2];rfl
  ·rw[Ar (Ap w nb)]
   exact s4 _ _ (s3 y ob w)
 rw[lx] at e2;subst e2;exact q b H2 x2 nb x1
theorem E1:Bd ["book", "loss"] ["book", "loss"] (As Lp):=⟨rfl,rfl,rfl,by decide +kernel,rfl,by decide +kernel,by decide +kernel⟩
theorem Zm {f:Addr} {fd:zCG} (F:Fun K "asked_of" "asked_of" Lp f fd) (T:Txt K mg) (L:Kl K mg Ac Ag Ah Am Au Bb Ba At Ad Aw Ak Aj Bg Ai Az Aq) (Masks:Ix P w K mg base 5 Ai "asks" ["self", "loss"] (E6 (A8.mk Ac Ag Ah Am Au Bb Ba At) Ad Aw Ak Aj Ai 4)) :
  FnOk P w K mg base Da 6 f fd ["book", "loss"] (Yh (A8.mk Ac Ag Ah Am Au Bb Ba At) Ad Aw Ak Aj Ai Az 4):=by
 have sc:=E1;refine F.ok sc (fun vs H Q E h=>?_) (fun cdv A outer s H vs Q E hr h=>?_)
 ·obtain⟨_,_,_,_,rfl,_⟩:=h
  rfl
 obtain⟨b,l,bs,z,rfl,⟨dx,fs,ak,e,a1,hak,all⟩,hm,l60,hl,q⟩:=h;refine⟨_,(Ao (Be (De (NC:=["cover", "loss"]) (own:=["cover"]) (cs:=["loss"]) (ix:=[1]) rfl (CompScope.of rfl) rfl ⟨⟨rfl,.inl rfl,rfl⟩,trivial⟩ (Bt (Cp (pv 0) rfl)) (fun _ _ _=>(Ay (i:=0) (show (["cover", "loss"]:List Str).Nodup from by decide +kernel) rfl (Or.inl rfl))) (fun _ _ _=>(Fh (Cn (Ec Masks (hr.mono (by decide)) (pv 0) (Aa (pv 1) Af))))) (fun _ _ _=>(pv 0))))),?_⟩;have lm:(bs.map xV).length=bs.length:=zAb _;refine (vE rfl ⟨b,Az,dx,fs,_,rfl,e,L.cl_Book,L.na_Book_asking,a1,ak,rfl,⟨_,SqL.of hak⟩,fun r nr=>?_⟩);refine Cb (K:=K) (a:=ak) (xs:=bs.map xV) (fun i ys H2=>ys=((bs.take i).filter fun x=>hT x.t z.ls).map xV/\H2 r=some (.lst ys)/\Same H H2) ⟨rfl,Ab,An nr _⟩
  (fun i ys H2 _ ⟨e2,h1,s2⟩=>⟨h1,by rw[e2,zAb]; exact zAG (zAI _ _) (by rw[zAx]; lia),SqL.of (s2 _ _ hak)⟩) (by rw[zCE]; lia) (fun i v ys H2 hi ⟨e2,h1,s2⟩=>?_) (fun ys H2 ⟨e2,h1,s2⟩=>?_)
 ·rw[zAs] at hi
  obtain⟨x,hx,rfl⟩:=zAJ.mp hi;have mx:=zAE hx;have cx:=(all x mx).same s2;obtain⟨d2,f2,_,_,_,e3,_,_,_,_,n5,_⟩:=id cx;refine (vE rfl ⟨x.p,d2,f2,rfl,e3,n5.1,_,rfl,x,l,z,rfl,cx,hm x mx,s2 _ _ hl,_,rfl,?_⟩);have es:(bs.take (i+1)).filter (fun x=>hT x.t z.ls)=(bs.take i).filter (fun x=>hT x.t z.ls)++if hT x.t z.ls=true then [x] else []:=by
   rw[Bu hx,zBj];by_cases c:hT x.t z.ls=true
   ·rw[if_pos c,zBK (by exact c),zBP]
   ·rw[if_neg c,zBL (by exact c),zBP]
  cases cw:hT x.t z.ls with
  | false=>
   refine Dq ⟨rfl,?_,h1,s2⟩;rw[es,e2,cw];simp
  | true=>
   refine Kn (vE rfl ⟨h1,rfl,?_,Ab,fun b o w=>?_⟩)
   ·rw[es,e2,cw]
    simp
   ·rw[Ar (Ap w nr)]
    exact s2 b o w
 rw[lm,zAA] at e2;subst e2;exact q r H2 s2 nr h1
def EH (k:Int) (cs:List Cl) (ns:List Int) (W:Int×Int):Prop:=∃ lo hi:Int,Q0 lo (0::(Br k cs ns).map (·.1))/\Q5 hi (k::(Br k cs ns).map (·.2))/\W=(lo,if hi>lo then hi else lo)
def Ca (cs:List Cl) (ns:List Int):Option (Int×Int):=Eb (Cj cs ns) 0 none
def O6 (κ:A8) (CC CO CL CM C:Addr):Sp:=fun vs H Q _=>∃ x ct u un ns,∃ k:Int,vs=[.ref x.p,.ref ct,.int k,.ref u]/\CvxAt κ CC CO CL CM C H x/\H ct=some (.lst (List.map V.int ns))/\ns.length=x.cs.length/\LP H u un/\un.length<=1000 /\
 ∀ r W H',Same H H'->H r=none->EH k x.cs ns W->LP H' r (CRT.payW (x.nm,W,(Ca x.cs ns).map (·.1)) un)->Q (.ref r) H'
theorem Xd:Bd ["cover", "numbers", "cents", "unpaid", "window", "rest", "most"] ["cover", "numbers", "cents", "unpaid"] (As Jx):=⟨rfl,rfl,rfl,by decide +kernel,rfl,by decide +kernel,by decide +kernel⟩
theorem Xh {f:Addr} {fd:zCG} (F:Fun K "paid_runs" "paid_runs" Jx f fd) (T:Txt K mg) (Mwindow:Ix P w K mg base 4 Ai "window" ["self", "counts", "cents"] (DG Ad Aw Ak Aj Ai)) (Mrest:Ix P w K mg base 2 Ai "rest" ["self", "counts"] (Xn Ad Aw Ak Aj Ai))
  (Ccut_within:Cq P w K mg base 1 "cut_within" ["runs", "lo", "hi"] P4) (Clowest_of:Cq P w K mg base 1 "lowest_of" ["runs", "n"] Ra):FnOk P w K mg base Da 5 f fd ["cover", "numbers", "cents", "unpaid"] (O6 (A8.mk Ac Ag Ah Am Au Bb Ba At) Ad Aw Ak Aj Ai):=by
 have sc:=Xd;refine F.ok sc (fun vs H Q E h=>?_) (fun cdv A outer s H vs Q E hr h=>?_)
 ·obtain⟨_,_,_,_,_,_,rfl,_⟩:=h
  rfl
 obtain⟨x,ct,u,un,ns,k,rfl,cx,hct,ln,lu,l9,q⟩:=h;refine⟨_,(Ae (Bf (i:=4) sc.nd rfl (Or.inl rfl) (Ec Mwindow (hr.mono (by decide)) (pv 0) (Aa (pv 1) (Aa (pv 2) Af))))
   (Ae (Bf (i:=5) sc.nd rfl (Or.inl rfl) (Ec Mrest (hr.mono (by decide)) (pv 0) (Aa (pv 1) Af)))
   (Ae (Bf (i:=6) sc.nd rfl (Or.inl rfl) (Me (Bj Qu (pv 5) Gj (Bm _)) Gj (Bh Bq (pv 5) Al (fun _ _=>rfl))))
   (Ao (Be (Ax Clowest_of (hr.mono (by decide)) rfl (Aa (Ax Ccut_within (hr.mono (by decide)) rfl (Aa (pv 3) (Aa (Bh Bq (pv 4) Al (fun _ _=>rfl)) (Aa (Bh Bq (pv 4) Al (fun _ _=>rfl)) Af)))) (Aa (pv 6) Af)))))))),?_⟩
 obtain⟨dx,fs,cv,cl,xs,e,a1,a2,a3,a4,n5,a6,hcl,cc,l8⟩:=id cx;have cva:CvAt Ai H x.p cl:=⟨dx,fs,e,a3,n5.2⟩;refine (vE rfl ⟨x.p,dx,fs,rfl,e,n5.2.2.1,_,rfl,vE rfl ⟨x.p,cl,ct,x.cs,ns,k,rfl,⟨cva,⟨xs,hcl,cc⟩,hct,ln,l8⟩,fun t lo hi H1 s1 ht mx mn=>?_⟩⟩);refine Dr [some (.ref x.p),some (.ref ct),some (.int k),some (.ref u),some (.ref t),none,none] rfl ?_;refine (vE rfl ⟨x.p,dx,fs,rfl,s1 _ _ e,n5.2.2.2.2,_,rfl,x.p,cl,ct,xs,x.cs,ns,rfl,cva.same s1,s1 _ _ hcl,cc.mono (Na s1),s1 _ _ hct,ln,fun v H2 s2 rv=>?_⟩);refine Dr [some (.ref x.p),some (.ref ct),some (.int k),some (.ref u),some (.ref t),some v,none] rfl ?_;have ht2:=s2 _ _ ht;have S2:=s1.trans s2;have lu2:LP H2 u un:=LP.same S2 lu;have wa:EH k x.cs ns (lo,if hi>lo then hi else lo):=⟨lo,hi,mx,mn,rfl⟩;have lc:=CR.cutW_len un lo (if hi>lo then hi else lo);cases ro:Eb (Cj x.cs ns) 0 none with
 | none=>
  rw[ro] at rv;have rv':v = .non:=rv;subst rv';refine (vE rfl ⟨rfl,vE rfl (dT rfl ?_)⟩);refine Dr [some (.ref x.p),some (.ref ct),some (.int k),some (.ref u),some (.ref t),some .non,some .non] rfl ?_;refine (vE rfl (vE rfl (vI rfl rfl (SqT.of ht2) rfl (vE rfl (vI rfl rfl (SqT.of ht2) rfl ⟨u,un,lo,_,rfl,lu2,l9,fun r1 H3 s3 nr1 lp=>(vE rfl (.inr ⟨r1,_,rfl,lp,fun r H4 s4 nr lp4=>?_⟩))⟩)))));refine q r _ H4 (S2.trans (s3.trans s4)) (S2.free (s3.free nr)) wa ?_;unfold Ca;rw[ro];exact lp4
 | some nj=>
  obtain⟨n,j⟩:=nj;rw[ro] at rv;obtain⟨t2,rfl,ht3⟩:=rv;refine (vE rfl ⟨rfl,vE rfl (dF (fun y=>by cases y) (vE rfl (vI rfl rfl (SqT.of ht3) rfl ?_)))⟩);refine Dr [some (.ref x.p),some (.ref ct),some (.int k),some (.ref u),some (.ref t),some (.ref t2),some (.int n)] rfl ?_;refine (vE rfl (vE rfl (vI rfl rfl (SqT.of ht2) rfl (vE rfl (vI rfl rfl (SqT.of ht2) rfl ⟨u,un,lo,_,rfl,lu2,l9,fun r1 H3 s3 nr1 lp=>(vE rfl (.inl ⟨r1,_,n,rfl,lp,by omega,fun r H4 s4 nr lp4=>?_⟩))⟩)))));refine q r _ H4 (S2.trans (s3.trans s4)) (S2.free (s3.free nr)) wa ?_;unfold Ca;rw[ro];exact lp4
abbrev Ko:=CRT.Sx Str
def G5 (s:Ko):List V:=[.int s.1,.int s.2.1,.str s.2.2.1,.int s.2.2.2]
def Sts (H:Hp):List V->List Ko->Prop
 | [],[]=>True
 | x::xs,p::ps=>(∃ t,x = .ref t/\H t=some (.tup (G5 p)))/\Sts H xs ps
 | _,_=>False
theorem Sts.len {H:Hp}:∀ {xs:List V} {ps:List Ko},Sts H xs ps->xs.length=ps.length
 | [],[],_=>rfl
 | [],_::_,h=>h.elim
 | _::_,[],h=>h.elim
 | x::xs,p::ps,h=>by rw[zAg,zAg,Sts.len h.2]
theorem Sts.mono {H H':Hp} (s:GK H H'):∀ {xs:List V} {ps:List Ko},Sts H xs ps->Sts H' xs ps
 | [],[],_=>trivial
 | [],_::_,h=>h.elim
 | _::_,[],h=>h.elim
 | x::xs,p::ps,⟨⟨t,e,h⟩,r⟩=>⟨⟨t,e,s _ _ h⟩,Sts.mono s r⟩
theorem Sts.app {H:Hp}:∀ {xs:List V} {ps:List Ko} {ys:List V} {qs:List Ko},Sts H xs ps->Sts H ys qs->Sts H (xs++ys) (ps++qs)
 | [],[],_,_,_,h=>h
 | [],_::_,_,_,r,_=>r.elim
 | _::_,[],_,_,r,_=>r.elim
 | x::xs,p::ps,_,_,⟨z,r⟩,h=>⟨z,Sts.app r h⟩
theorem Sts.one {H:Hp} {t:Addr} {p:Ko} (h:H t=some (.tup (G5 p))):Sts H [.ref t] [p]:=⟨⟨t,rfl,h⟩,trivial⟩
theorem Sts.get {H:Hp}:∀ {xs:List V} {ps:List Ko} {i:Nat} {x:V},Sts H xs ps->xs[i]?=some x->∃ t p,ps[i]?=some p/\x = .ref t/\H t=some (.tup (G5 p))
 | [],[],_,_,_,e=>by simp at e
 | [],_::_,_,_,h,_=>h.elim
 | _::_,[],_,_,h,_=>h.elim
 | x::xs,p::ps,0,y,⟨⟨t,e,h⟩,r⟩,q=>by
  simp at q;subst q;exact⟨t,p,rfl,e,h⟩
 | x::xs,p::ps,i+1,y,⟨_,r⟩,q=>by
  obtain⟨t,p',h1,h2⟩:=Sts.get (i:=i) r (by simpa using q);exact⟨t,p',by simpa using h1,h2⟩
theorem Zg {nm:Str} {k:Int} {ps:List CR.Rn} {i:Nat} {p:CR.Rn} (h:ps[i]?=some p):CRT.tag nm k (ps.take (i+1))=CRT.tag nm k (ps.take i)++[(p.1,p.2,nm,k)]:=by
 unfold CRT.tag;rw[Bu h,zAq];rfl
theorem Xw {b n k:Int} (k0:0<=k):0<=O9 b n k/\O9 b n k<=k:=by
 unfold O9 CR.minI CR.maxI
 repeat' split
 all_goals lia
theorem FX {k:Int} (k0:0<=k) (c:Cl) (n:Int):(0<=LN c n k/\LN c n k<=k)/\0<=LR c n k/\LR c n k<=k:=by
 cases c with
 | own y d=>exact⟨Xw k0,k0,Int.le_refl _⟩
 | lay y a b=>exact⟨Xw k0,Xw k0⟩
 | lim y m=>exact⟨⟨Int.le_refl _,k0⟩,k0,Int.le_refl _⟩
 | any y=>exact⟨⟨Int.le_refl _,k0⟩,k0,Int.le_refl _⟩
theorem Zq {k:Int} (k0:0<=k):∀ (cs:List Cl) (ns:List Int),∀ p∈Br k cs ns,(0<=p.1/\p.1<=k)/\0<=p.2/\p.2<=k
 | [],_,p,h=>by unfold Br at h; simp at h
 | _::_,[],p,h=>by unfold Br at h; simp at h
 | c::cs,n::ns,p,h=>by
  unfold Br at h;rw[zCw] at h;rcases zAn.mp h with z | z
  ·rw[z]; exact FX k0 c n
  ·exact Zq k0 cs ns p z
theorem DV {k:Int} (k0:0<=k) {sp:List (Int×Int)} (bd:∀ p∈sp,(0<=p.1/\p.1<=k)/\0<=p.2/\p.2<=k) {ms:List Int} (up:ms.Pairwise (· < ·)) (mem:∀ y,y∈ms↔MT sp k y):CRP.Ch (CRP.fw sp) 0 none (CRP.foldP sp ms (ms.length-1)) k:=by
 have at':∀ y∈ms,∃ j,j<ms.length/\ms.getD j 0=y:=fun y hy=>by
  obtain⟨j,hj,e⟩:=zAY hy;exact⟨j,hj,by rw[zAt,zAe hj]; exact e⟩
 have inn:∀ j,j<ms.length->0<=ms.getD j 0/\ms.getD j 0<=k:=fun j hj=>by
  have m:ms.getD j 0∈ms:=by
   rw[zAt,zAe hj];exact zBc hj
  rcases (mem _).mp m with z | z | ⟨p,hp,z | z⟩
  ·rw[z]; exact⟨Int.le_refl _,k0⟩
  ·rw[z]; exact⟨k0,Int.le_refl _⟩
  ·rw[z]; exact (bd p hp).1
  ·rw[z]; exact (bd p hp).2
 obtain⟨j0,h0,e0⟩:=at' 0 ((mem 0).mpr (.inl rfl));obtain⟨jk,hk,ek⟩:=at' k ((mem k).mpr (.inr (.inl rfl)));have z0:ms.getD 0 0=0:=by
  rcases Nat.eq_zero_or_pos j0 with z | z
  ·rw[z] at e0; exact e0
  ·have:=CRP.get_lt up z h0
   have:=inn 0 (by lia)
   lia
 have zk:ms.getD (ms.length-1) 0=k:=by
  by_cases z:jk=ms.length-1
  ·rw[<- z]; exact ek
  ·have:=CRP.get_lt up (show jk<ms.length-1 by lia) (by lia)
   have:=inn (ms.length-1) (by lia)
   lia
 have c:=CRP.fold_ch up (sp:=sp) (fun p hp=>⟨(mem _).mpr (.inr (.inr ⟨p,hp,.inl rfl⟩)),(mem _).mpr (.inr (.inr ⟨p,hp,.inr rfl⟩))⟩) (ms.length-1) (by lia) z0;rw[zk] at c;exact c
def Sv (ro:Option (Int×Int)) (k:Int):Int:=match ro with
 | none=>k
 | some (_,j)=>if k = -1 then j else k
theorem M8 {nm:Str} {g:Int->Int} {un:List CR.Rn} {ps:List CRP.Tr3} {i:Nat} {p:CRP.Tr3} (h:ps[i]?=some p):CRT.borneS nm g (ps.take (i+1)) un=CRT.borneS nm g (ps.take i) un++CRT.tag nm (g p.2.2) (CR.cutW un p.1 p.2.1):=by
 unfold CRT.borneS;rw[Bu h,zAq,List.flatten_append];simp
theorem KL {te:TE} {i:Nat} {ts:TS} {D:Om} {σ:St} {H:Hp} (v:V) (h:∀ Q':VK,Q' v H->te σ H Q') (k:ts D (σ.set i (some v)) H):LV (FR te (Fb i)) ts D σ H:=h _ k
def Wa (κ:A8) (CC CO CL CM C:Addr):Sp:=fun vs H Q _=>∃ x ct u un ns,∃ k:Int,vs=[.ref x.p,.ref ct,.int k,.ref u]/\CvxAt κ CC CO CL CM C H x/\H ct=some (.lst (List.map V.int ns))/\ns.length=x.cs.length/\LP H u un/\un.length<=60/\0<=k /\
 ∀ r ys parts H',Same H H'->H r=none->H' r=some (.lst ys)->CRP.Ch (CRP.fw (Br k x.cs ns)) 0 none parts k->parts.length<=20->Sts H' ys (CRT.borneS x.nm (Sv (Ca x.cs ns)) parts un)->ys.length<=1200->Q (.ref r) H'
theorem Pi:Bd ["cover", "numbers", "cents", "unpaid", "rest", "strips", "lo", "hi", "k", "clause"] ["cover", "numbers", "cents", "unpaid"] (As Gd):=⟨rfl,rfl,rfl,by decide +kernel,rfl,by decide +kernel,by decide +kernel⟩
theorem Pp {f:Addr} {fd:zCG} (F:Fun K "borne_strips" "borne_strips" Gd f fd) (T:Txt K mg) (L:Kl K mg Ac Ag Ah Am Au Bb Ba At Ad Aw Ak Aj Bg Ai Az Aq) (Mparts:Ix P w K mg base 4 Ai "parts" ["self", "counts", "cents"] (DH Ad Aw Ak Aj Ai)) (Mrest:Ix P w K mg base 2 Ai "rest" ["self", "counts"] (Xn Ad Aw Ak Aj Ai))
  (Ccut_within:Cq P w K mg base 1 "cut_within" ["runs", "lo", "hi"] P4):FnOk P w K mg base Da 5 f fd ["cover", "numbers", "cents", "unpaid"] (Wa (A8.mk Ac Ag Ah Am Au Bb Ba At) Ad Aw Ak Aj Ai):=by
 have sc:=Pi;refine F.ok sc (fun vs H Q E h=>?_) (fun cdv A outer s H vs Q E hr h=>?_)
 ·obtain⟨_,_,_,_,_,_,rfl,_⟩:=h
  rfl
 obtain⟨x,ct,u,un,ns,k,rfl,cx,hct,ln,lu,l60,k0,q⟩:=h;refine⟨_,(Ae (Bf (i:=4) sc.nd rfl (Or.inl rfl) (Ec Mrest (hr.mono (by decide)) (pv 0) (Aa (pv 1) Af)))
   (Ae (Bf (i:=5) sc.nd rfl (Or.inl rfl) (Ci Af))
   (Ae (Ck PassesOwn.never rfl (Bt (Ec Mparts (hr.mono (by decide)) (pv 0) (Aa (pv 1) (Aa (pv 2) Af)))) (Ea (n:=3) rfl (Bk (Ay (i:=6) sc.nd rfl (Or.inl rfl)) (Bk (Ay (i:=7) sc.nd rfl (Or.inl rfl)) (Bk (Ay (i:=8) sc.nd rfl (Or.inl rfl)) Dh))))
    (Ae (Bf (i:=9) sc.nd rfl (Or.inr rfl) (Me (PW.pt (On (Bj Di (pv 8) (Yu Rg Al) (Bm _)) (Mp (Bj V0 (pv 4) Gj (Bm _))))) (Bh Bq (pv 4) Al (fun _ _=>rfl)) (pv 8)))
   (Ao (Cr (Gk PySem.F.plainAttrs_list PySem.F.slot_list_extend PySem.F.type_list_extend Kj (pv 5) (Aa (De (NC:=["run", "clause", "cover"]) (own:=["run"]) (cs:=["clause", "cover"]) (ix:=[9,0]) rfl (CompScope.of rfl) rfl ⟨⟨rfl,.inl rfl,rfl⟩,⟨⟨rfl,.inl rfl,rfl⟩,trivial⟩⟩ (Bt (Ax Ccut_within (hr.mono (by decide)) rfl (Aa (pv 3) (Aa (pv 6) (Aa (pv 7) Af))))) (fun _ _ _=>(Ay (i:=0) (show (["run", "clause", "cover"]:List Str).Nodup from by decide +kernel) rfl (Or.inl rfl))) (fun _ _ _=>Cu) (fun _ _ _=>(Cd (Aa (Bh (Cs (K:=K) rfl) (pv 0) Al (fun _ _=>rfl)) (Aa (Bh (Cs (K:=K) rfl) (pv 0) Al (fun _ _=>rfl)) (Aa (Ki (K:=K) (pv 2) rfl) (Aa (pv 1) Af))))))) Af))))))
   (Ao (Be (pv 5)))))),?_⟩
 obtain⟨dx,fs,cv,cl,xs,e,a1,a2,a3,a4,n5,a6,hcl,cc,l8⟩:=id cx;have cva:CvAt Ai H x.p cl:=⟨dx,fs,e,a3,n5.2⟩;refine (vE rfl ⟨x.p,dx,fs,rfl,e,n5.2.2.2.2,_,rfl,x.p,cl,ct,xs,x.cs,ns,rfl,cva,hcl,cc,hct,ln,fun v H1 s1 rv=>?_⟩);refine Dr [some (.ref x.p),some (.ref ct),some (.int k),some (.ref u),some v,none,none,none,none,none] rfl ?_;refine⟨zAD _,fun st nst=>?_⟩;have s2:=s1.trans (An nst (.lst []));have rv2:=rv.same (An nst (.lst []));have hst:upd H1 st (.lst []) st=some (.lst []):=Ab;have fst:=s1.free nst;generalize upd H1 st (.lst [])=H2 at s2 rv2 hst;refine Dr [some (.ref x.p),some (.ref ct),some (.int k),some (.ref u),some v,some (.ref st),none,none,none,none] rfl ?_;refine (vE rfl ⟨x.p,dx,fs,rfl,s2 _ _ e,n5.2.2.2.1,_,rfl,vE rfl ⟨x.p,cl,ct,x.cs,ns,k,rfl,⟨cva.same s2,⟨xs,s2 _ _ hcl,cc.mono (Na s2)⟩,s2 _ _ hct,ln,l8⟩,fun pl pxs ms H3 s3 npl hpl up mem l20 tr=>?_⟩⟩);have ch:=DV k0 (Zq k0 x.cs ns) up mem;have lpt:(CRP.foldP (Br k x.cs ns) ms (ms.length-1)).length<=20:=zAG (CRP.foldP_len _ _ _) (by lia);generalize CRP.foldP (Br k x.cs ns) ms (ms.length-1)=parts at tr ch lpt;have lpx:=tr.len;have S3:=s2.trans s3;have rv3:=rv2.same s3;have hst3:=s3 _ _ hst;have npst:pl≠st:=(Ap hst npl).symm;refine⟨pl,rfl,⟨_,SqL.of hpl⟩,?_⟩;refine Db (K:=K) (a:=pl) (xs:=pxs) (fun i σ H4=>(∃ o6 o7 o8 o9,σ=[some (.ref x.p),some (.ref ct),some (.int k),some (.ref u),some v,some (.ref st),o6,o7,o8,o9])/\(∃ ys,H4 st=some (.lst ys)/\Sts H4 ys (CRT.borneS x.nm (Sv (Ca x.cs ns)) (parts.take i) un)/\ys.length<=60*i)/\(∀ b o,H3 b=some o->b≠st->H4 b=some o))
  ⟨⟨none,none,none,none,rfl⟩,⟨[],hst3,trivial,zAl _⟩,fun b o z _=>z⟩ (fun i σ H4 _ hh=>SqL.of (hh.2.2 _ _ hpl npst)) ?_ ?_
 ·rintro i y σ H4 hi ⟨⟨o6,o7,o8,o9,rfl⟩,⟨ys,h4,sy,ly⟩,kp⟩
  obtain⟨t,p,hp,rfl,ht⟩:=tr.get hi;have il:i<parts.length:=(zAi.mp hp).1;have tst:∀ {b:Addr} {zs:List V},H3 b=some (.tup zs)->H4 b=some (.tup zs):=fun z=>kp _ _ z (Iz z hst3 (by intro y; cases y));refine⟨t,_,rfl,SqT.of (tst ht),rfl,vC rfl (vC rfl (vC rfl (⟨rfl,?_⟩)))⟩;refine KL (.int (Sv (Ca x.cs ns) p.2.2)) (fun Q' kq=>?_) ?_
  ·by_cases c:p.2.2 = -1
   ·refine (vE rfl (vE rfl ⟨rfl,vE rfl (dT (by rw[c]) ?_)⟩))
    cases ro:Eb (Cj x.cs ns) 0 none with
    | none=>
     rw[ro] at rv3;have rv':v = .non:=rv3;subst rv';refine (vE rfl ⟨rfl,vE rfl (nF rfl (vE rfl ?_))⟩);unfold Ca at kq;rw[ro] at kq;exact kq
    | some nj=>
     obtain⟨n,j⟩:=nj;rw[ro] at rv3;obtain⟨t2,rfl,ht3⟩:=rv3;refine (vE rfl ⟨rfl,vE rfl (nT (fun y=>by cases y) (vE rfl (vI rfl rfl (SqT.of (tst ht3)) rfl ?_)))⟩);unfold Ca Sv at kq;rw[ro] at kq
     dsimp only at kq
     rw[if_pos c] at kq;exact kq
   ·refine (vE rfl (vE rfl ⟨rfl,vE rfl (dF (fun y=>c (V.int.inj y)) (vE rfl ?_))⟩))
    have eg:Sv (Ca x.cs ns) p.2.2=p.2.2:=by
     unfold Sv
     split
     ·rfl
     ·rw[if_neg c]
    rw[eg] at kq;exact kq
  refine GI [some (.ref x.p),some (.ref ct),some (.int k),some (.ref u),some v,some (.ref st),some (.int p.1),some (.int p.2.1),some (.int p.2.2),some (.int (Sv (Ca x.cs ns) p.2.2))] rfl ?_;generalize Sv (Ca x.cs ns)=g at sy ⊢;obtain⟨us,hu0,pu0⟩:=id lu;have lu4:LP H4 u un:=⟨us,kp _ _ (S3 _ _ hu0) (Ap hu0 fst),(pu0.mono (Bo S3)).mono fun b ws y=>tst y⟩;have e4:=kp _ _ (S3 _ _ e) (Ap e fst);refine (vE rfl ⟨.inl ⟨rfl,_,SqL.of h4⟩,vE rfl (vE rfl (vE rfl ⟨u,un,p.1,p.2.1,rfl,lu4,by lia,fun r1 H5 s5 nr1 lp=>?_⟩))⟩);obtain⟨rs,hr1,pr⟩:=id lp;have lr:=pr.len;have lc:=CR.cutW_len un p.1 p.2.1;refine⟨r1,rfl,⟨_,SqL.of hr1⟩,fun c1 nc1=>?_⟩;refine Cb (K:=K) (a:=r1) (xs:=rs) (fun j zs H6=>Sts H6 zs (CRT.tag x.nm (g p.2.2) ((CR.cutW un p.1 p.2.1).take j))/\H6 c1=some (.lst zs)/\Same H5 H6) ⟨trivial,Ab,An nc1 _⟩
   (fun j zs H6 _ ⟨e6,x1,x2⟩=>⟨x1,by rw[e6.len]; unfold CRT.tag; rw[zAb,zAx]; lia,SqL.of (x2 _ _ hr1)⟩) (by rw[zCE]; lia) (fun j w zs H6 hj ⟨e6,x1,x2⟩=>?_) (fun zs H6 ⟨e6,x1,x2⟩=>?_)
  ·obtain⟨t',p',hp',rfl,ht'⟩:=pr.get hj
   refine (vE rfl (vI rfl rfl (SqT.of (x2 _ _ ht')) rfl (vE rfl (vI rfl rfl (SqT.of (x2 _ _ ht')) rfl (vE rfl ⟨x.p,Ai,dx,fs,_,rfl,x2 _ _ (s5 _ _ e4),L.cl_Cover,L.na_Cover_name,a1,_,rfl,Cf (by show 4<=1000; decide),fun v1 nv1=>?_⟩)))));have s7:=An nv1 (.tup [.int p'.1,.int p'.2,.str x.nm,.int (g p.2.2)]);refine⟨s7 _ _ x1,rfl,?_,Ab,fun b o z=>?_⟩
   ·rw[Zg hp']
    exact ((e6.mono (Bo s7)).app (Sts.one (p:=(p'.1,p'.2,x.nm,g p.2.2)) Ab)).mono (Dj (s7 _ _ x1) _)
   ·rw[Ar (Ap z nc1)]
    exact s7 _ _ (x2 b o z)
  rw[lr,zAA] at e6;have s6:=s5.trans x2;have h6:=s6 _ _ h4;have lz:=e6.len;have lt:(CRT.tag x.nm (g p.2.2) (CR.cutW un p.1 p.2.1)).length=(CR.cutW un p.1 p.2.1).length:=by unfold CRT.tag; rw[zAb]
  refine⟨st,c1,ys,zs,rfl,rfl,h6,x1,by rw[zCE]; lia,?_⟩;refine⟨⟨_,_,_,_,rfl⟩,⟨_,Ab,?_,by rw[zAo]; lia⟩,fun b o z nb=>?_⟩
  ·rw[M8 hp]
   exact ((sy.mono (Bo s6)).app e6).mono (Dj h6 _)
  ·rw[Ar nb]
   exact s6 _ _ (kp b o z nb)
 ·rintro σ H4 ⟨⟨o6,o7,o8,o9,rfl⟩,⟨ys,h4,sy,ly⟩,kp⟩
  rw[lpx,zAA] at sy;refine (vE rfl (q st ys parts H4 (fun b o z=>kp b o (S3 _ _ z) (Ap z fst)) fst h4 ch lpt sy (by lia)))
end
theorem Je:∀ {rs:List (Option Int)} {k:Int} {o:Option (Int×Int)} {n j:Int},Eb rs k o=some (n,j)->o=some (n,j)\/∃ i:Nat,rs[i]?=some (some n)/\j=k+i
 | [],k,o,n,j,h=>.inl h
 | none::r,k,o,n,j,h=>by
  unfold Eb at h;rcases Je h with z | ⟨i,z1,z2⟩
  ·exact .inl z
  ·exact .inr ⟨i+1,by simpa using z1,by lia⟩
 | some m::r,k,none,n,j,h=>by
  unfold Eb at h;rcases Je h with z | ⟨i,z1,z2⟩
  ·cases z
   exact .inr ⟨0,rfl,by simp⟩
  ·exact .inr ⟨i+1,by simpa using z1,by lia⟩
 | some m::r,k,some (m',j'),n,j,h=>by
  unfold Eb at h;rcases Je h with z | ⟨i,z1,z2⟩
  ·split at z
   ·cases z
    exact .inr ⟨0,rfl,by simp⟩
   ·exact .inl z
  ·exact .inr ⟨i+1,by simpa using z1,by lia⟩
theorem Vs:∀ {cs:List Cl} {ns:List Int} {i:Nat} {n:Int} (k:Int),(Cj cs ns)[i]?=some (some n)->(Br k cs ns)[i]?=some (0,k)
 | [],_,i,n,k,h=>by unfold Cj at h; simp at h
 | _::_,[],i,n,k,h=>by unfold Cj at h; simp at h
 | c::cs,m::ns,0,n,k,h=>by
  unfold Cj at h;unfold Br;rw[zCw] at h ⊢;simp at h;cases c with
  | lim y a=>rfl
  | own y d=>cases h
  | lay y a b=>cases h
  | any y=>cases h
 | c::cs,m::ns,i+1,n,k,h=>by
  unfold Cj at h;unfold Br;rw[zCw] at h ⊢;simp only [List.getElem?_cons_succ] at h ⊢;exact Vs (cs:=cs) (ns:=ns) k h
theorem So:∀ {sp:List (Int×Int)} {k c:Int},CRP.fwFrom sp k c = -1\/∃ i:Nat,∃ q,sp[i]?=some q/\CRP.fwFrom sp k c=k+i/\(c<q.1\/q.2<=c)
 | [],k,c=>.inl rfl
 | (a,b)::r,k,c=>by
  unfold CRP.fwFrom;by_cases z:c<a\/b<=c
  ·rw[if_pos z]
   exact .inr ⟨0,(a,b),rfl,by simp,z⟩
  ·rw[if_neg z]
   rcases So (sp:=r) (k:=k+1) (c:=c) with y | ⟨i,q,y1,y2,y3⟩
   ·exact .inl y
   ·exact .inr ⟨i+1,q,by simpa using y1,by rw[y2]; lia,y3⟩
theorem IG:∀ {sp:List (Int×Int)} {k c:Int},0<=k->CRP.fwFrom sp k c = -1->∀ q∈sp,q.1<=c/\c<q.2
 | [],_,_,_,_,q,h=>nomatch h
 | (a,b)::r,k,c,k0,h,q,hq=>by
  unfold CRP.fwFrom at h;by_cases z:c<a\/b<=c
  ·rw[if_pos z] at h
   lia
  ·rw[if_neg z] at h
   rcases zAn.mp hq with y | y
   ·rw[y]
    exact⟨by show a<=c; lia,by show c<b; lia⟩
   ·exact IG (by lia) h q y
theorem Wx {sp:List (Int×Int)} {k:Int} {parts:List CRP.Tr3} (ch:CRP.Ch (CRP.fw sp) 0 none parts k) {p:CRP.Tr3} (hp:p∈parts):∃ c,0<=c/\c<k/\CRP.fw sp c=p.2.2:=by
 obtain⟨i,hi,e⟩:=zAY hp;have g:=CRP.Ch.get (i:=i) (p:=p) ch (by rw[zAe hi,e]);exact⟨p.1,g.2.2.2.1,by have:=g.1; have:=g.2.2.2.2; omega,g.2.1 p.1 (Int.le_refl _) g.1⟩
theorem Qf {cs:List Cl} {ns:List Int} {k n j:Int} (ro:Ca cs ns=some (n,j)) {parts:List CRP.Tr3} (ch:CRP.Ch (CRP.fw (Br k cs ns)) 0 none parts k):0<=j/\∀ p∈parts,p.2.2≠j:=by
 unfold Ca at ro;rcases Je ro with z | ⟨i,z1,z2⟩
 ·cases z
 refine⟨by lia,fun p hp e=>?_⟩;obtain⟨c,c0,ck,ec⟩:=Wx ch hp;have sp:=Vs k z1;unfold CRP.fw at ec;rcases So (sp:=Br k cs ns) (k:=0) (c:=c) with y | ⟨i',q,y1,y2,y3⟩
 ·lia
 ·have:i'=i:=by lia
  subst this;rw[sp] at y1;cases y1
  dsimp only at y3
  lia
theorem HW {cs:List Cl} {ns:List Int} {k:Int} {parts:List CRP.Tr3} (ch:CRP.Ch (CRP.fw (Br k cs ns)) 0 none parts k):∀ p∈parts,∀ q∈parts,Sv (Ca cs ns) p.2.2=Sv (Ca cs ns) q.2.2->p.2.2=q.2.2:=by
 intro p hp q hq e;cases ro:Ca cs ns with
 | none=>
  rw[ro] at e;exact e
 | some nj=>
  obtain⟨n,j⟩:=nj;obtain⟨j0,no⟩:=Qf ro ch;rw[ro] at e;have e':(if p.2.2 = -1 then j else p.2.2)=if q.2.2 = -1 then j else q.2.2:=e;have n1:=no p hp;have n2:=no q hq;by_cases c1:p.2.2 = -1
  ·by_cases c2:q.2.2 = -1
   ·lia
   ·rw[if_pos c1,if_neg c2] at e'
    exact absurd e'.symm n2
  ·by_cases c2:q.2.2 = -1
   ·rw[if_neg c1,if_pos c2] at e'
    exact absurd e' n1
   ·rw[if_neg c1,if_neg c2] at e'
    exact e'
def JF (kvs:Jd) (z:LF) (x:Cvx) (a:CRT.Av Str):Prop:=∃ W,EH z.ct x.cs (numsOf kvs z x) W/\a=(x.nm,W,(Ca x.cs (numsOf kvs z x)).map (·.1))
def Avs (kvs:Jd) (z:LF):List Cvx->List (CRT.Av Str)->Prop
 | [],[]=>True
 | x::xs,a::as=>JF kvs z x a/\Avs kvs z xs as
 | _,_=>False
theorem Avs.names {kvs:Jd} {z:LF}:∀ {xs:List Cvx} {as:List (CRT.Av Str)},Avs kvs z xs as->as.map (·.1)=xs.map (·.nm)
 | [],[],_=>rfl
 | [],_::_,h=>h.elim
 | _::_,[],h=>h.elim
 | x::xs,a::as,⟨⟨W,_,e⟩,r⟩=>by rw[zAH,zAH,Avs.names r,e]
theorem Avs.snoc {kvs:Jd} {z:LF}:∀ {xs:List Cvx} {as:List (CRT.Av Str)} {x:Cvx} {a:CRT.Av Str},Avs kvs z xs as->JF kvs z x a->Avs kvs z (xs++[x]) (as++[a])
 | [],[],_,_,_,h=>⟨h,trivial⟩
 | [],_::_,_,_,r,_=>r.elim
 | _::_,[],_,_,r,_=>r.elim
 | x::xs,a::as,_,_,⟨h,r⟩,g=>⟨h,Avs.snoc r g⟩
theorem Avs.len {kvs:Jd} {z:LF} {xs:List Cvx} {as:List (CRT.Av Str)} (h:Avs kvs z xs as):as.length=xs.length:=by
 have:=congrArg List.length h.names
 rwa [zAb,zAb] at this
theorem M3 {kvs:Jd} {z:LF} {x:Cvx} {xs:List Cvx} {as:List (CRT.Av Str)} (av:Avs kvs z (x::xs) as) (c0:0<z.ct) {parts:List CRP.Tr3} (ch:CRP.Ch (CRP.fw (Br z.ct x.cs (numsOf kvs z x))) 0 none parts z.ct) :
  ∀ p∈parts,Sv (Ca x.cs (numsOf kvs z x)) p.2.2 = -1->∀ n,p.1<=n->n<p.2.1->CR.inR (CRT.leftS as [(0,z.ct)]) n=false:=by
 intro p hp hg n n1 n2
 match as,av with
 | a::as,⟨⟨W,hw,ea⟩,r⟩=>
  obtain⟨i,hi,e⟩:=zAY hp;have g:=CRP.Ch.get (i:=i) (p:=p) ch (by rw[zAe hi,e]);have fn:=g.2.1 n n1 n2;have b0:=g.2.2.2.1;have b1:=g.2.2.2.2;cases ro:Ca x.cs (numsOf kvs z x) with
  | some nj=>
   obtain⟨m,j⟩:=nj;obtain⟨j0,no⟩:=Qf ro ch;rw[ro] at hg;have hg':(if p.2.2 = -1 then j else p.2.2) = -1:=hg
   split at hg'
   ·omega
   ·contradiction
  | none=>
   rw[ro] at hg ea;have k1:p.2.2 = -1:=hg;rw[k1] at fn;have inn:=IG (Int.le_refl 0) fn;obtain⟨lo,hi',mx,mn,eW⟩:=hw;have l1:lo<=n:=by
    rcases zAn.mp mx.1 with y | y
    ·omega
    ·obtain⟨q,hq,y'⟩:=zAr.mp y
     have:=inn q hq;have y'':q.1=lo:=y';omega
   have l2:n<hi':=by
    rcases zAn.mp mn.1 with y | y
    ·omega
    ·obtain⟨q,hq,y'⟩:=zAr.mp y
     have:=inn q hq;have y'':q.2=hi':=y';omega
   cases zl:CR.inR (CRT.leftS (a::as) [(0,z.ct)]) n with
   | false=>rfl
   | true=>
    exfalso;have f1:=CRT.frm_one c0;have zl':CR.inR (CRT.leftS as (CR.outW [(0,z.ct)] (CRT.payW a [(0,z.ct)]))) n=true:=zl;have:=CRT.leftS_sub (CR.outW_frm f1 (CRT.payW_frm f1)) zl';rw[CR.outW_in (CRT.payW_frm f1),zAv,zBp] at this;have pin:CR.inR (CRT.payW a [(0,z.ct)]) n=true:=by
     rw[ea];show CR.inR (CR.cutW [(0,z.ct)] W.1 W.2) n=true;rw[CR.cutW_in,zAv,zAv,decide_eq_true_eq,decide_eq_true_eq,eW];refine⟨CRT.in_one.mpr ⟨by omega,by omega⟩,l1,?_⟩;show n<if hi'>lo then hi' else lo
     split <;> omega
    rw[pin] at this;cases this.2
def Ef (kvs:Jd) (z:LF) (as:List Cvx) (S:List Ko):Prop:=match as with
 | []=>S=[((0:Int),z.ct,("" : Str),(0:Int))]
 | x::_=>∃ avs parts,Avs kvs z as avs/\CRP.Ch (CRP.fw (Br z.ct x.cs (numsOf kvs z x))) 0 none parts z.ct/\S.Perm (CRT.allS avs x.nm (Sv (Ca x.cs (numsOf kvs z x))) parts z.ct)/\S.Pairwise (fun s t=>s.1<t.1)
set_option tactic.hygienic true in
theorem Ov {kvs:Jd} {z:LF} {as:List Cvx} {S:List Ko} (h:Ef kvs z as S) (nd:(as.map (·.nm)).Nodup) (c0:0<z.ct):CRT.FormS 0 none S z.ct:=by
 unfold Ef at h
 split at h
 ·rw[h]
  exact⟨rfl,c0,(fun y=>by cases y),rfl⟩
 ·rename_i x _
  obtain⟨avs,parts,av,ch,pm,so⟩:=h;have sp:=CRT.all_sep (cs:=avs) c0 (by rw[av.names]; exact nd) ch (HW ch) (M3 av c0 ch) (nm:=x.nm);exact CRT.form_of (by lia) (sp.perm pm) so (fun n=>(CRT.inS_perm pm).trans (CRT.all_in c0 ch)) (fun s _ _ y=>by cases y)
theorem Qm (a:CRT.Av Str):∀ (as:List (CRT.Av Str)) (un:List CR.Rn),CRT.paidS (as++[a]) un=CRT.paidS as un++CRT.tag a.1 (-1) (CRT.payW a (CRT.leftS as un))/\CRT.leftS (as++[a]) un=CR.outW (CRT.leftS as un) (CRT.payW a (CRT.leftS as un))
 | [],un=>⟨by show CRT.tag a.1 (-1) (CRT.payW a un)++[]=[]++CRT.tag a.1 (-1) (CRT.payW a un); simp,rfl⟩
 | c::as,un=>by
  have ih:=Qm a as (CR.outW un (CRT.payW c un));refine⟨?_,ih.2⟩;show CRT.tag c.1 (-1) (CRT.payW c un)++CRT.paidS (as++[a]) _=(CRT.tag c.1 (-1) (CRT.payW c un)++CRT.paidS as _)++_;rw[ih.1,zBE];rfl
theorem FK {un:List CR.Rn} {B:List Int} (f:CR.Frm un) (e:CRT.EndsIn B un):un.length<=B.length:=by
 have nd:(un.map (·.1)).Nodup:=by
  rw[zBs,zBF];refine f.pw.imp_of_mem fun {p q} hp hq h z=>?_;have:=f.lt p hp
  lia
 have:=CRT.few_of (m:=B) nd fun x hx=>by
  obtain⟨p,hp,rfl⟩:=zAr.mp hx;exact (e p hp).1
 rwa [zAb] at this
theorem C9 {c:Int} (c0:0<c) (as:List (CRT.Av Str)):(CRT.leftS as [(0,c)]).length<=2+3*as.length:=by
 obtain⟨B,b1,b2,b3,b4⟩:=CRT.paid_ends (cs:=as) (B:=[0,c]) (CRT.frm_one c0) (fun p hp=>by rw[zAk.mp hp]; simp);have:=FK (CRT.leftS_frm (CRT.frm_one c0)) b3;rw[b1] at this;exact this
theorem FF (a:CRT.Av Str) (un:List CR.Rn):(CRT.payW a un).length<=un.length:=by
 unfold CRT.payW
 split
 ·exact CR.cutW_len _ _ _
 ·exact zAG (CR.lowW_len _ _) (CR.cutW_len _ _ _)
theorem Sts.tupF {K:zAa} {H:Hp}:∀ {xs:List V} {S:List Ko},Sts H xs S->TupF K H xs (S.map (·.1))
 | [],[],_=>trivial
 | [],_::_,h=>h.elim
 | _::_,[],h=>h.elim
 | x::xs,p::ps,⟨⟨t,e,h⟩,r⟩=>⟨⟨t,_,e,SqT.of h,rfl⟩,Sts.tupF r⟩
theorem Sts.pick {H:Hp} {xs:List V} {S:List Ko} (h:Sts H xs S):∀ l:List Nat,(∀ i∈l,i<S.length)->Sts H (l.map fun i=>xs.getD i .non) (l.map fun i=>S.getD i (0,0, "",0))
 | [],_=>trivial
 | i::l,hl=>by
  have hi:=hl i zAj;have lx:=h.len;obtain⟨t,p,e1,e2,e3⟩:=h.get (i:=i) (zAe (by lia));refine⟨⟨t,?_,?_⟩,Sts.pick h l fun j hj=>hl j (zAf _ hj)⟩
  ·show xs.getD i .non = .ref t
   rw[zAt,zAe (by lia)];exact e2
  ·show H t=some (.tup (G5 (S.getD i (0,0, "",0))))
   rw[zAt,e1];exact e3
def Rt (κ:A8) (CC CO CL CM C CB CN:Addr):Sp:=fun vs H Q _=>∃ b cp kp kvs l z bs,vs=[.ref b,.ref cp,.ref l]/\AskAt κ CC CO CL CM C CB H b bs/\(∀ x∈bs,Ow x.t<4)/\bs.length<=8/\(bs.map (·.nm)).Nodup/\CtAt CN H cp kp kvs/\IntV kvs/\H l=some (.tup (LF.vs z))/\0<z.ct /\
 ∀ r ys S H',Same H H'->H r=none->H' r=some (.lst ys)->Sts H' ys S->Ef kvs z (Jy z bs) S->S.length<64->Q (.ref r) H'
section
seal L2.PS L2.PSs L2.PE L2.PA
variable {P:Program} {w:World} {K:zAa} {mg:Str->Option Value} {base:Heap} {Ac Ag Ah Am Au Bb Ba At Ad Aw Ak Aj Bg Ai Az Aq:Addr}
theorem Yd:Bd ["book", "counts", "loss", "cents", "asked", "unpaid", "strips", "cover", "paid", "first"] ["book", "counts", "loss"] (As Jq):=⟨rfl,rfl,rfl,by decide +kernel,rfl,by decide +kernel,by decide +kernel⟩
theorem Wp {f:Addr} {fd:zCG} (F:Fun K "strips_of" "strips_of" Jq f fd) (T:Txt K mg) (L:Kl K mg Ac Ag Ah Am Au Bb Ba At Ad Aw Ak Aj Bg Ai Az Aq) (Casked_of:Cq P w K mg base 6 "asked_of" ["book", "loss"] (Yh (A8.mk Ac Ag Ah Am Au Bb Ba At) Ad Aw Ak Aj Ai Az 4)) (Cnumbers_of:Cq P w K mg base 3 "numbers_of" ["cover", "counts", "loss"] (N0 (A8.mk Ac Ag Ah Am Au Bb Ba At) Ad Aw Ak Aj Ai Aq))
  (Cpaid_runs:Cq P w K mg base 5 "paid_runs" ["cover", "numbers", "cents", "unpaid"] (O6 (A8.mk Ac Ag Ah Am Au Bb Ba At) Ad Aw Ak Aj Ai)) (Cborne_strips:Cq P w K mg base 5 "borne_strips" ["cover", "numbers", "cents", "unpaid"] (Wa (A8.mk Ac Ag Ah Am Au Bb Ba At) Ad Aw Ak Aj Ai)) (Ccut_out:Cq P w K mg base 2 "cut_out" ["runs", "others"] AT) :
  FnOk P w K mg base Da 7 f fd ["book", "counts", "loss"] (Rt (A8.mk Ac Ag Ah Am Au Bb Ba At) Ad Aw Ak Aj Ai Az Aq):=by
 have sc:=Yd;refine F.ok sc (fun vs H Q E h=>?_) (fun cdv A outer s H vs Q E hr h=>?_)
 ·obtain⟨_,_,_,_,_,_,_,rfl,_⟩:=h
  rfl
 obtain⟨b,cp,kp,kvs,l,z,bs,rfl,ask,hm,l8,nd,ct,iv,hl,c0,q⟩:=h;refine⟨_,(Ae (Bf (i:=3) sc.nd rfl (Or.inl rfl) (Bh Bq (pv 2) (Dm T.g_CENTS rfl) (fun _ _=>rfl)))
   (Ae (Bf (i:=4) sc.nd rfl (Or.inl rfl) (Ax Casked_of (hr.mono (by decide)) rfl (Aa (pv 0) (Aa (pv 2) Af))))
   (Ae (Bw (Dc (AR (pv 4)))
    (Ao (Be (Ci (Aa (Cd (Aa Al (Aa (pv 3) (Aa Bz (Aa Al Af))))) Af))))
    Bl)
   (Ae (Bf (i:=5) sc.nd rfl (Or.inl rfl) (Ci (Aa (Cd (Aa Al (Aa (pv 3) Af))) Af)))
   (Ae (Bf (i:=6) sc.nd rfl (Or.inl rfl) (Ci Af))
   (Ae (Ck PassesOwn.never rfl (Bt (pv 4)) (Ay (i:=7) sc.nd rfl (Or.inr rfl))
    (Ae (Bf (i:=8) sc.nd rfl (Or.inl rfl) (Ax Cpaid_runs (hr.mono (by decide)) rfl (Aa (pv 7) (Aa (Ax Cnumbers_of (hr.mono (by decide)) rfl (Aa (pv 7) (Aa (pv 1) (Aa (pv 2) Af)))) (Aa (pv 3) (Aa (pv 5) Af))))))
   (Ae (Cr (Gk PySem.F.plainAttrs_list PySem.F.slot_list_extend PySem.F.type_list_extend Kj (pv 6) (Aa (De (NC:=["run", "cover"]) (own:=["run"]) (cs:=["cover"]) (ix:=[7]) rfl (CompScope.of rfl) rfl ⟨⟨rfl,.inl rfl,rfl⟩,trivial⟩ (Bt (pv 8)) (fun _ _ _=>(Ay (i:=0) (show (["run", "cover"]:List Str).Nodup from by decide +kernel) rfl (Or.inl rfl))) (fun _ _ _=>Cu) (fun _ _ _=>(Cd (Aa (Bh (Cs (K:=K) rfl) (pv 0) Al (fun _ _=>rfl)) (Aa (Bh (Cs (K:=K) rfl) (pv 0) Al (fun _ _=>rfl)) (Aa (Ki (K:=K) (pv 1) rfl) (Aa (Yu Rg Al) Af))))))) Af)))
   (Ao (Bf (i:=5) sc.nd rfl (Or.inl rfl) (Ax Ccut_out (hr.mono (by decide)) rfl (Aa (pv 5) (Aa (pv 8) Af))))))))
   (Ae (Bf (i:=9) sc.nd rfl (Or.inl rfl) (Bh Bp (pv 4) Al (fun _ _=>rfl)))
   (Ae (Cr (Gk PySem.F.plainAttrs_list PySem.F.slot_list_extend PySem.F.type_list_extend Kj (pv 6) (Aa (Ax Cborne_strips (hr.mono (by decide)) rfl (Aa (pv 9) (Aa (Ax Cnumbers_of (hr.mono (by decide)) rfl (Aa (pv 9) (Aa (pv 1) (Aa (pv 2) Af)))) (Aa (pv 3) (Aa (pv 5) Af))))) Af)))
   (Ao (Be (Bn Wr rfl T.n_sorted (show zCF _=some (.builtin "sorted") from rfl) (Aa (pv 6) Af)))))))))))),?_⟩
 have one:1<=sizeLine:=by rw[zCE]; decide
 have two:2<=sizeLine:=by rw[zCE]; decide
 refine (vE rfl (vI rfl rfl (SqT.of hl) rfl ?_));refine Dr [some (.ref b),some (.ref cp),some (.ref l),some (.int z.ct),none,none,none,none,none,none] rfl ?_;refine (vE rfl (vE rfl ⟨b,l,bs,z,rfl,ask,hm,by lia,hl,fun ak H1 s1 nak hak=>?_⟩));refine Dr [some (.ref b),some (.ref cp),some (.ref l),some (.int z.ct),some (.ref ak),none,none,none,none,none] rfl ?_;have sub:∀ x∈Jy z bs,x∈bs:=fun x hx=>(zAL.mp hx).1;have la:(Jy z bs).length<=8:=zAG (zAI _ _) l8;have nda:((Jy z bs).map (·.nm)).Nodup:=nd.sublist (List.Sublist.map _ zBJ);obtain⟨_,_,_,_,_,_,all⟩:=ask;have alla:∀ x∈Jy z bs,CvxAt (A8.mk Ac Ag Ah Am Au Bb Ba At) Ad Aw Ak Aj Ai H1 x:=fun x hx=>(all x (sub x hx)).same s1;have ct1:=ct.same s1;have hl1:=s1 _ _ hl;clear all ct hl hm l8 nd;generalize Jy z bs=as at hak sub la nda alla q;refine (vE rfl ⟨_,.inl ⟨_,SqL.of hak,rfl⟩,?_⟩);cases eas:as with
 | nil=>
  rw[eas] at q;refine Kn (vE rfl ⟨Cf (by show 4<=1000; decide),fun t nt=>⟨one,fun r nr=>?_⟩⟩);have s2:=An nt (.tup (G5 (0,z.ct, "",0)));have s3:=An nr (.lst [V.ref t]);exact q r [.ref t] [(0,z.ct, "",0)] _ (s1.trans (s2.trans s3)) (s1.free (s2.free nr)) Ab (Sts.one (s3 _ _ Ab)) rfl (show 1<64 by decide)
 | cons x0 more=>
 refine Dq ?_;have e0:as[0]?=some x0:=by rw[eas]; rfl
 refine (vE rfl ⟨two,fun t0 nt0=>⟨one,fun u0 nu0=>?_⟩⟩);have s2:=(An nt0 (.tup [V.int 0,.int z.ct])).trans (An nu0 (.lst [V.ref t0]));have lu0:LP (upd (upd H1 t0 (.tup [V.int 0,.int z.ct])) u0 (.lst [V.ref t0])) u0 [(0,z.ct)]:=⟨_,Ab,⟨t0,rfl,An nu0 (.lst [V.ref t0]) _ _ Ab⟩,trivial⟩;generalize upd (upd H1 t0 (.tup [V.int 0,.int z.ct])) u0 (.lst [V.ref t0])=H2 at s2 lu0;refine Dr [some (.ref b),some (.ref cp),some (.ref l),some (.int z.ct),some (.ref ak),some (.ref u0),none,none,none,none] rfl ?_;refine⟨zAD _,fun st nst=>?_⟩;have S3:=s2.trans (An nst (.lst []));have fst:=s2.free nst;have lu3:=LP.same (An nst (.lst [])) lu0;have hst3:upd H2 st (.lst []) st=some (.lst []):=Ab;have nus:u0≠st:=by
  obtain⟨_,y,_⟩:=lu0;exact Ap y nst
 generalize upd H2 st (.lst [])=H3 at S3 lu3 hst3;refine Dr [some (.ref b),some (.ref cp),some (.ref l),some (.int z.ct),some (.ref ak),some (.ref u0),some (.ref st),none,none,none] rfl ?_;have hak3:=S3 _ _ hak;have ncs:cp≠st/\kp≠st:=by
  obtain⟨⟨_,_,y,_⟩,y2⟩:=id ct1;exact⟨Ap y fst,Ap y2 fst⟩
 refine (vE rfl ⟨ak,rfl,⟨_,SqL.of hak3⟩,?_⟩);refine Db (K:=K) (a:=ak) (xs:=as.map xV) (fun i σ H4=>(∃ u o7 o8,σ=[some (.ref b),some (.ref cp),some (.ref l),some (.int z.ct),some (.ref ak),some (.ref u),some (.ref st),o7,o8,none]/\u≠st /\
   ∃ avs ys,Avs kvs z (as.take i) avs/\LP H4 u (CRT.leftS avs [(0,z.ct)])/\H4 st=some (.lst ys)/\Sts H4 ys (CRT.paidS avs [(0,z.ct)])/\ys.length<=60*i)/\Same H1 H4)
  ⟨⟨u0,none,none,rfl,nus,[],[],trivial,lu3,hst3,trivial,zAl _⟩,S3⟩ (fun i σ H4 _ hh=>SqL.of (hh.2 _ _ hak)) ?_ ?_
 ·rintro i y σ H4 hi ⟨⟨u,o7,o8,rfl,nu,avs,ys,av,lu,h4,sy,ly⟩,S4⟩
  rw[zAs] at hi;obtain⟨x,hx,rfl⟩:=zAJ.mp hi;have il:i<as.length:=(zAi.mp hx).1;have lav:avs.length<=8:=by rw[av.len,zAx]; lia
  have lun:=C9 c0 avs;have cx:=(alla x (zAE hx)).same S4;generalize eun:CRT.leftS avs [(0,z.ct)]=un at lu lun;refine (vE rfl (vE rfl (vE rfl (vE rfl ⟨x,cp,kp,kvs,l,z,rfl,cx,ct1.same S4,iv,S4 _ _ hl1,fun nr H5 s5 nnr hnr=>(vE rfl (vE rfl ⟨x,nr,u,un,numsOf kvs z x,z.ct,rfl,cx.same s5,hnr,C2 kvs z x,LP.same s5 lu,by lia,fun pd W H6 s6 npd wa lp6=>?_⟩))⟩))));refine Dr [some (.ref b),some (.ref cp),some (.ref l),some (.int z.ct),some (.ref ak),some (.ref u),some (.ref st),some (.ref x.p),some (.ref pd),none] rfl ?_;have s56:=s5.trans s6;have lpy:=FF (x.nm,W,(Ca x.cs (numsOf kvs z x)).map (·.1)) un;have av':JF kvs z x (x.nm,W,(Ca x.cs (numsOf kvs z x)).map (·.1)):=⟨W,wa,rfl⟩;have sn:=Qm (x.nm,W,(Ca x.cs (numsOf kvs z x)).map (·.1)) avs [(0,z.ct)];rw[eun] at sn;generalize (x.nm,W,(Ca x.cs (numsOf kvs z x)).map (·.1))=av1 at lp6 lpy av' sn;have en:av1.1=x.nm:=by obtain⟨_,_,y⟩:=av'; rw[y]
  rw[en] at sn;have h6:=s56 _ _ h4;obtain⟨rs,hpd,pr⟩:=id lp6;have lr:=pr.len;obtain⟨dx,fs,_,_,_,e,a1,_⟩:=cx.same s56;refine (vE rfl ⟨.inl ⟨rfl,_,SqL.of h6⟩,vE rfl ⟨pd,rfl,⟨_,SqL.of hpd⟩,fun c1 nc1=>?_⟩⟩);refine Cb (K:=K) (a:=pd) (xs:=rs) (fun j zs H7=>Sts H7 zs (CRT.tag x.nm (-1) ((CRT.payW av1 un).take j))/\H7 c1=some (.lst zs)/\Same H6 H7) ⟨trivial,Ab,An nc1 _⟩
   (fun j zs H7 _ ⟨e6,x1,x2⟩=>⟨x1,by rw[e6.len]; unfold CRT.tag; rw[zAb,zAx]; lia,SqL.of (x2 _ _ hpd)⟩) (by rw[zCE]; lia) (fun j w zs H7 hj ⟨e6,x1,x2⟩=>?_) (fun zs H7 ⟨e6,x1,x2⟩=>?_)
  ·obtain⟨t',p',hp',rfl,ht'⟩:=pr.get hj
   refine (vE rfl (vI rfl rfl (SqT.of (x2 _ _ ht')) rfl (vE rfl (vI rfl rfl (SqT.of (x2 _ _ ht')) rfl (vE rfl ⟨x.p,Ai,dx,fs,_,rfl,x2 _ _ e,L.cl_Cover,L.na_Cover_name,a1,_,rfl,Cf (by show 4<=1000; decide),fun v1 nv1=>?_⟩)))));have s7:=An nv1 (.tup [.int p'.1,.int p'.2,.str x.nm,.int (-1)]);refine⟨s7 _ _ x1,rfl,?_,Ab,fun b o z=>?_⟩
   ·rw[Zg hp']
    exact ((e6.mono (Bo s7)).app (Sts.one (p:=(p'.1,p'.2,x.nm,-1)) Ab)).mono (Dj (s7 _ _ x1) _)
   ·rw[Ar (Ap z nc1)]
    exact s7 _ _ (x2 b o z)
  rw[lr,zAA] at e6;have h7:=x2 _ _ h6;have lz:=e6.len;have lt:(CRT.tag x.nm (-1) (CRT.payW av1 un)).length=(CRT.payW av1 un).length:=by unfold CRT.tag; rw[zAb]
  refine⟨st,c1,ys,zs,rfl,rfl,h7,x1,by rw[zCE]; lia,?_⟩;have k7:GK H7 (upd H7 st (.lst (ys++zs))):=Dj h7 _;have sts8:=((sy.mono (Bo (s56.trans x2))).app e6).mono k7;rw[<- sn.1] at sts8;have S8:Same H1 (upd H7 st (.lst (ys++zs))):=fun b o z=>by rw[Ar (Ap z fst)]; exact x2 _ _ (s56 _ _ (S4 _ _ z))
  have lpd8:LP (upd H7 st (.lst (ys++zs))) pd (CRT.payW av1 un):=by
   have npst:pd≠st:=(Ap (s5 _ _ h4) npd).symm;exact⟨rs,by rw[Ar npst]; exact x2 _ _ hpd,(pr.mono (Bo x2)).mono k7⟩
  have lu8:LP (upd H7 st (.lst (ys++zs))) u un:=by
   obtain⟨us,y1,y2⟩:=lu;exact⟨us,by rw[Ar nu]; exact x2 _ _ (s56 _ _ y1),(y2.mono (Bo (s56.trans x2))).mono k7⟩
  have h8:upd H7 st (.lst (ys++zs)) st=some (.lst (ys++zs)):=Ab;generalize upd H7 st (.lst (ys++zs))=H8 at sts8 S8 lpd8 lu8 h8;refine (vE rfl (vE rfl ⟨u,pd,un,CRT.payW av1 un,rfl,lu8,lpd8,by lia,by lia,fun u2 H9 s9 nu2 lp9=>?_⟩));have nu2':u2≠st:=(Ap h8 nu2).symm;refine⟨⟨u2,_,_,rfl,nu2',avs++[av1],ys++zs,?_,?_,s9 _ _ h8,sts8.mono (Bo s9),by rw[zAo]; lia⟩,S8.trans s9⟩
  ·rw[Bu hx]
   exact av.snoc av'
  ·rw[sn.2]
   exact lp9
 ·rintro σ H4 ⟨⟨u,o7,o8,rfl,nu,avs,ys,av,lu,h4,sy,ly⟩,S4⟩
  rw[zAb,zAA] at av;rw[zAb] at ly;have lav:avs.length<=8:=by rw[av.len]; exact la
  have lun:=C9 c0 avs;have at0:Nf (as.map xV) 0=some (.ref x0.p):=Ey (by rw[zAs,e0]; rfl);refine (vE rfl (vI rfl rfl (SqL.of (S4 _ _ hak)) at0 ?_));refine Dr [some (.ref b),some (.ref cp),some (.ref l),some (.int z.ct),some (.ref ak),some (.ref u),some (.ref st),o7,o8,some (.ref x0.p)] rfl ?_;have cx:=(alla x0 (zAE e0)).same S4;refine (vE rfl ⟨.inl ⟨rfl,_,SqL.of h4⟩,vE rfl (vE rfl (vE rfl (vE rfl ⟨x0,cp,kp,kvs,l,z,rfl,cx,ct1.same S4,iv,S4 _ _ hl1,fun nr H5 s5 nnr hnr=>(vE rfl (vE rfl ⟨x0,nr,u,_,numsOf kvs z x0,z.ct,rfl,cx.same s5,hnr,C2 kvs z x0,LP.same s5 lu,by lia,by lia,fun r1 ys1 parts H6 s6 nr1 hr1 ch lpt sb l12=>?_⟩))⟩)))⟩);have s56:=s5.trans s6;have h6:=s56 _ _ h4;refine⟨st,r1,ys,ys1,rfl,rfl,h6,hr1,by rw[zCE]; lia,?_⟩;have sts7:=((sy.mono (Bo s56)).app sb).mono (Dj h6 (.lst (ys++ys1)));have S7:Same H1 (upd H6 st (.lst (ys++ys1))):=fun b o z=>by rw[Ar (Ap z fst)]; exact s56 _ _ (S4 _ _ z)
  have h7:upd H6 st (.lst (ys++ys1)) st=some (.lst (ys++ys1)):=Ab;generalize upd H6 st (.lst (ys++ys1))=H7 at sts7 S7 h7;rw[eas] at av nda;have sp:CRT.Sep (CRT.allS avs x0.nm (Sv (Ca x0.cs (numsOf kvs z x0))) parts z.ct):=CRT.all_sep c0 (by rw[av.names]; exact nda) ch (HW ch) (M3 av c0 ch);have ln:=CRT.all_len (f:=CRP.fw (Br z.ct x0.cs (numsOf kvs z x0))) c0 sp;have sts8:Sts H7 (ys++ys1) (CRT.allS avs x0.nm (Sv (Ca x0.cs (numsOf kvs z x0))) parts z.ct):=sts7;generalize eS:CRT.allS avs x0.nm (Sv (Ca x0.cs (numsOf kvs z x0))) parts z.ct=S at sts8 sp ln;have lS:=sts8.len;refine (vE rfl ⟨st,ys++ys1,S.map (·.1),rfl,SqL.of h7,?_,sts8.tupF,sp.starts,fun r p nr pm up=>?_⟩)
  ·lia
  rw[lS] at pm up;obtain⟨o1,o2⟩:=W4 (d:=((0:Int),(0:Int),("" : Str),(0:Int))) (f:=fun s:Ko=>s.1) pm up sp.starts;have s8:=An nr (.lst (p.toList.map fun i=>(ys++ys1).getD i .non));refine q r _ (p.toList.map fun i=>S.getD i (0,0, "",0)) _ (s1.trans (S7.trans s8)) (s1.free (S7.free nr)) Ab ((sts8.pick p.toList fun i hi=>?_).mono (Bo s8)) ?_ (by rw[o1.length_eq]; lia)
  ·have pl:p.toList.Perm (zAM S.length):=by
    have:=zCi.mp pm
    simpa using this
   exact zBt.mp (pl.mem_iff.mp hi)
  ·rw[eas]
   exact⟨avs,parts,av,ch,by rw[eS]; exact o1,o2⟩
end
def Iu (u:Int):Prop:=1<=u/\u<=10000000019
def A4:Sp:=fun vs H Q _=>∃ d u:Int,vs=[.int d,.int u]/\0<=d/\Iu u/\∀ m:Int,0<=m->m<=120000000230->Q (.int m) H
def J3 (K:zAa):Sp:=fun vs H Q _=>∃ a ns,vs=[.ref a]/\SqL K H a (List.map V.int ns)/\ns.length<=63/\∀ u H',Same H H'->Iu u->Q (.int u) H'
def M5:Sp:=fun vs H Q _=>∃ y l z,vs=[.str y,.ref l]/\H l=some (.tup (LF.vs z))/\Q (kV (Rm y z)) H
theorem PM:(10:Int)^(10:Int).toNat=10000000000:=by decide +kernel
section
seal L2.PS L2.PSs L2.PE L2.PA
variable {P:Program} {w:World} {K:zAa} {mg:Str->Option Value} {base:Heap}
theorem Re:Bd ["_law_digit", "_law_unit_here"] ["_law_digit", "_law_unit_here"] (As Hj):=⟨rfl,rfl,rfl,by decide +kernel,rfl,by decide +kernel,by decide +kernel⟩
theorem Th {f:Addr} {fd:zCG} (F:Fun K "_law_amount" "_law_amount" Hj f fd) (T:Txt K mg):FnOk P w K mg base Da 1 f fd ["_law_digit", "_law_unit_here"] A4:=by
 have sc:=Re;refine F.ok sc (fun vs H Q E h=>?_) (fun cdv A outer s H vs Q E hr h=>?_)
 ·obtain⟨_,_,rfl,_⟩:=h
  rfl
 obtain⟨d,u,rfl,d0,⟨u1,u2⟩,q⟩:=h;refine⟨_,(Ao (Be (Bc Cm (Bc Dy (Bc Bx (pv 0) Al) (pv 1)) (Bc Bx (Bc By (pv 0) Al) Al)))),?_⟩;refine (vE rfl (vF rfl rfl ⟨(by show (0:Int)<13; decide),_,rfl,vF rfl rfl ⟨.inr ⟨by lia,by lia⟩,vE rfl (vF rfl rfl ⟨⟨by decide,by decide⟩,_,_,rfl,rfl,(by show (0:Int)<3; decide),_,_,rfl,rfl,?_⟩)⟩⟩));have m1:=md (a:=d) (b:=13) (by decide);have m2:=md (a:=d/13) (b:=3) (by decide);have p0:0<=d%13*u:=Int.mul_nonneg m1.1 (by lia);have p1:d%13*u<=12*10000000019:=Int.mul_le_mul (by lia) u2 (by lia) (by decide);exact q _ (by lia) (by lia)
theorem Xs:Bd ["_law_script"] ["_law_script"] (As Kd):=⟨rfl,rfl,rfl,by decide +kernel,rfl,by decide +kernel,by decide +kernel⟩
theorem Xv {f:Addr} {fd:zCG} (F:Fun K "_law_unit" "_law_unit" Kd f fd) (T:Txt K mg) (C_law_cell:Cq P w K mg base 1 "_law_cell" ["_law_script", "_law_k"] (Nu K)) (C_law_spread:Cq P w K mg base 1 "_law_spread" ["_law_cell_here"] Jn):FnOk P w K mg base Da 2 f fd ["_law_script"] (J3 K):=by
 have sc:=Xs;refine F.ok sc (fun vs H Q E h=>?_) (fun cdv A outer s H vs Q E hr h=>?_)
 ·obtain⟨_,_,rfl,_⟩:=h
  rfl
 obtain⟨a,ns,rfl,ha,l63,q⟩:=h;refine⟨_,(Ao (Be (Bh Bp (Ci (Aa Al (Aa Al (Aa Al (Aa Al (Aa (Bc Cm (Bc Qx Al Al) Al) Af)))))) (Bc Bx (Ax C_law_spread (hr.mono (by decide)) rfl (Aa (Ax C_law_cell (hr.mono (by decide)) rfl (Aa (pv 0) (Aa Al Af))) Af)) Al) (fun _ _=>rfl)))),?_⟩;refine (vF rfl rfl ⟨⟨by decide,by decide,by decide⟩,_,_,rfl,rfl,Cf (by show 5<=1000; decide),fun l nl=>?_⟩);have s1:=An nl (.lst [V.int 1,.int 1,.int 97,.int 1000,.int ((10:Int)^(10:Int).toNat+19)]);refine (vE rfl ⟨a,ns,0,rfl,s1.seq ha,by lia,l63,vE rfl (fun r r0 r1=>(vF rfl rfl ⟨(by show (0:Int)<5; decide),?_⟩))⟩);have m:=md (a:=r) (b:=5) (by decide);have five:r%5=0\/r%5=1\/r%5=2\/r%5=3\/r%5=4:=by lia
 obtain⟨u,hu,uo⟩:∃ u:Int,Nf [V.int 1,.int 1,.int 97,.int 1000,.int ((10:Int)^(10:Int).toNat+19)] (r%5)=some (.int u)/\Iu u:=by
  rcases five with e | e | e | e | e <;> rw[e]
  ·exact⟨1,rfl,by decide,by decide⟩
  ·exact⟨1,rfl,by decide,by decide⟩
  ·exact⟨97,rfl,by decide,by decide⟩
  ·exact⟨1000,rfl,by decide,by decide⟩
  ·exact⟨(10:Int)^(10:Int).toNat+19,rfl,by rw[PM]; decide,by rw[PM]; decide⟩
 exact (vI rfl rfl (SqL.of Ab) hu (q u _ s1 uo))
theorem Zj:Bd ["_law_by", "_law_loss_here"] ["_law_by", "_law_loss_here"] (As Lq):=⟨rfl,rfl,rfl,by decide +kernel,rfl,by decide +kernel,by decide +kernel⟩
theorem B5 {f:Addr} {fd:zCG} (F:Fun K "_law_key" "_law_key" Lq f fd) (T:Txt K mg):FnOk P w K mg base Da 1 f fd ["_law_by", "_law_loss_here"] M5:=by
 have sc:=Zj;refine F.ok sc (fun vs H Q E h=>?_) (fun cdv A outer s H vs Q E hr h=>?_)
 ·obtain⟨_,_,_,rfl,_⟩:=h
  rfl
 obtain⟨y,l,z,rfl,hl,q⟩:=h;refine⟨_,(Ae (Bw (Bj Di (pv 0) Bz (Bm _))
    (Ao (Be (Bh Bq (pv 1) Al (fun _ _=>rfl))))
    Bl)
   (Ae (Bw (Bj Di (pv 0) Bz (Bm _))
    (Ao (Be (Bh Bq (pv 1) Al (fun _ _=>rfl))))
    Bl)
   (Ae (Bw (Bj Di (pv 0) Bz (Bm _))
    (Ao (Be (Bc By (Bh Bq (pv 1) Al (fun _ _=>rfl)) Al)))
    Bl)
   (Ao (Be (Bh Bq (pv 1) Al (fun _ _=>rfl))))))),?_⟩
 unfold Rm at q;refine (vE rfl ⟨rfl,vE rfl ?_⟩);by_cases c1:y = "event"
 ·rw[if_pos c1] at q
  exact dT (congrArg V.str c1) (vE rfl (vI rfl rfl (SqT.of hl) rfl q))
 rw[if_neg c1] at q;refine dF (fun e=>c1 (V.str.inj e)) (vE rfl ⟨rfl,vE rfl ?_⟩);by_cases c2:y = "thing"
 ·rw[if_pos c2] at q
  exact dT (congrArg V.str c2) (vE rfl (vI rfl rfl (SqT.of hl) rfl q))
 rw[if_neg c2] at q;refine dF (fun e=>c2 (V.str.inj e)) (vE rfl ⟨rfl,vE rfl ?_⟩);by_cases c3:y = "year"
 ·rw[if_pos c3] at q
  exact dT (congrArg V.str c3) (vE rfl (vI rfl rfl (SqT.of hl) rfl (vF rfl rfl ⟨⟨by decide,by decide⟩,q⟩)))
 rw[if_neg c3] at q;exact dF (fun e=>c3 (V.str.inj e)) (vE rfl (vI rfl rfl (SqT.of hl) rfl q))
end
abbrev JB:=Str×Str×Int×Int
def GW (r:JB):List V:=[.str r.1,.str r.2.1,.int r.2.2.1,.int r.2.2.2]
def MV (r:JB):Prop:=(r.1 = "own" \/ r.1 = "layer" \/ r.1 = "limit")/\Qo r.2.1/\(0<=r.2.2.1/\r.2.2.1<=120000000230)/\(r.1 = "layer" -> r.2.2.1<r.2.2.2/\r.2.2.2<=240000000461)
def Ky (r:JB):Cl:=if r.1 = "own" then .own r.2.1 r.2.2.1 else if r.1 = "layer" then .lay r.2.1 r.2.2.1 r.2.2.2 else .lim r.2.1 r.2.2.1
def JD:Sp:=fun vs H Q _=>∃ c u:Int,vs=[.int c,.int u]/\0<=c/\Iu u/\∀ t r H',Same H H'->H t=none->H' t=some (.tup (GW r))->MV r->Q (.ref t) H'
def WorldAt (H:Hp) (w:Addr) (A B C D:List Str):Prop:=∃ a b c d,H w=some (.lst [.ref a,.ref b,.ref c,.ref d])/\H a=some (.lst (A.map V.str))/\H b=some (.lst (B.map V.str))/\H c=some (.lst (C.map V.str))/\H d=some (.lst (D.map V.str))
structure OQ (A B C D:List Str):Prop where
 a:FA A
 b:FA B
 c:FA C
 d:FA D
 la:A.length=3
 lb:B.length=3
 lc:C.length=3
 ld:D.length<=5
def Xj (K:zAa):Sp:=fun vs H Q _=>∃ a ns,vs=[.ref a,.int 5]/\SqL K H a (List.map V.int ns)/\ns.length<=63/\∀ w A B C D H',Same H H'->WorldAt H' w A B C D->OQ A B C D->Q (.ref w) H'
section
seal L2.PS L2.PSs L2.PE L2.PA
variable {P:Program} {w:World} {K:zAa} {mg:Str->Option Value} {base:Heap}
theorem Jt:Bd ["_law_cell_here", "_law_unit_here", "_law_by", "_law_low", "_law_way"] ["_law_cell_here", "_law_unit_here"] (As Dx):=⟨rfl,rfl,rfl,by decide +kernel,rfl,by decide +kernel,by decide +kernel⟩
theorem Kf {f:Addr} {fd:zCG} (F:Fun K "_law_drawn_clause" "_law_drawn_clause" Dx f fd) (T:Txt K mg) (C_law_amount:Cq P w K mg base 1 "_law_amount" ["_law_digit", "_law_unit_here"] A4):FnOk P w K mg base Da 2 f fd ["_law_cell_here", "_law_unit_here"] JD:=by
 have sc:=Jt;refine F.ok sc (fun vs H Q E h=>?_) (fun cdv A outer s H vs Q E hr h=>?_)
 ·obtain⟨_,_,rfl,_⟩:=h
  rfl
 obtain⟨c,u,rfl,c0,uo,q⟩:=h;refine⟨_,(Ae (Bf (i:=2) sc.nd rfl (Or.inl rfl) (Bh Bp (Ci (Aa Bz (Aa Bz (Aa Bz (Aa Bz Af))))) (Bc Bx (pv 0) Al) (fun _ _=>rfl)))
   (Ae (Bf (i:=3) sc.nd rfl (Or.inl rfl) (Ax C_law_amount (hr.mono (by decide)) rfl (Aa (Bc Bx (Bc By (pv 0) Al) Al) (Aa (pv 1) Af))))
   (Ae (Bf (i:=4) sc.nd rfl (Or.inl rfl) (Bc Bx (Bc By (pv 0) Al) Al))
   (Ae (Bw (Bj Fk (pv 4) Al (Bm _))
    (Ao (Be (Cd (Aa Bz (Aa (pv 2) (Aa (Bc By (pv 3) Al) (Aa Al Af)))))))
    Bl)
   (Ae (Bw (Bj Di (pv 4) Al (Bm _))
    (Ao (Be (Cd (Aa Bz (Aa (pv 2) (Aa (pv 3) (Aa (Bc Cm (Bc Cm (pv 3) Al) (Ax C_law_amount (hr.mono (by decide)) rfl (Aa (Bc Bx (Bc By (pv 0) Al) Al) (Aa (pv 1) Af)))) Af)))))))
    Bl)
   (Ao (Be (Cd (Aa Bz (Aa (pv 2) (Aa (pv 3) (Aa Al Af)))))))))))),?_⟩
 have four:4<=sizeLine:=by rw[zCE]; decide
 refine⟨four,fun l nl=>?_⟩;have m4:=md (a:=c) (b:=4) (by decide);have f4:c%4=0\/c%4=1\/c%4=2\/c%4=3:=by lia
 obtain⟨y,hy,wy⟩:∃ y:Str,Nf [V.str "event",.str "thing",.str "year",.str "loss"] (c%4)=some (.str y)/\Qo y:=by
  rcases f4 with e | e | e | e <;> rw[e]
  ·exact (vE rfl (.inl rfl))
  ·exact (vE rfl (.inr (.inl rfl)))
  ·exact (vE rfl (.inr (.inr (.inl rfl))))
  ·exact (vE rfl (.inr (.inr (.inr rfl))))
 refine (vE rfl (vF rfl rfl ⟨(by show (0:Int)<4; decide),vI rfl rfl (SqL.of Ab) hy ?_⟩));have s1:=An nl (.lst [V.str "event",.str "thing",.str "year",.str "loss"]);refine Dr [some (.int c),some (.int u),some (.str y),none,none] rfl ?_;have d20:=md (a:=c/20) (b:=39) (by decide);refine (vE rfl (vF rfl rfl ⟨⟨by decide,by decide⟩,_,_,rfl,rfl,(by show (0:Int)<39; decide),_,rfl,_,u,rfl,d20.1,uo,fun m m0 m1=>?_⟩));refine Dr [some (.int c),some (.int u),some (.str y),some (.int m),none] rfl ?_;refine (vE rfl (vF rfl rfl ⟨⟨by decide,by decide⟩,_,_,rfl,rfl,(by show (0:Int)<5; decide),?_⟩));refine Mu 0 4 (md (by decide)) fun way w0 w4=>?_;refine (vE rfl (vF rfl rfl (vE rfl ?_)));by_cases c1:way<2
 ·refine dT c1 (vE rfl (vE rfl (vF rfl rfl ⟨⟨by decide,by decide⟩,four,fun t nt=>?_⟩)))
  exact q t ("own",y,m/2,0) _ (s1.trans (An nt _)) (s1.free nt) Ab ⟨.inl rfl,wy,⟨by show 0<=m/2; lia,by show m/2<=_; lia⟩,fun z=>absurd (show Str.ofString "own" = Str.ofString "layer" from z) (by decide +kernel)⟩
 refine dF c1 (vE rfl ⟨rfl,vE rfl ?_⟩);by_cases c2:way=2
 ·have d78:=md (a:=c/780) (b:=39) (by decide)
  refine dT (congrArg V.int c2) (vE rfl (vE rfl (vE rfl (vF rfl rfl (vE rfl (vF rfl rfl ⟨⟨by decide,by decide⟩,_,_,rfl,rfl,(by show (0:Int)<39; decide),_,rfl,_,u,rfl,d78.1,uo,fun m' m0' m1'=>(vF rfl rfl ⟨four,fun t nt=>?_⟩)⟩))))));exact q t ("layer",y,m,m+1+m') _ (s1.trans (An nt _)) (s1.free nt) Ab ⟨.inr (.inl rfl),wy,⟨m0,m1⟩,fun _=>⟨by show m<m+1+m'; lia,by show m+1+m'<=_; lia⟩⟩
 ·refine dF (fun e=>c2 (V.int.inj e)) (vE rfl (vE rfl ⟨four,fun t nt=>?_⟩))
  exact q t ("limit",y,m,0) _ (s1.trans (An nt _)) (s1.free nt) Ab ⟨.inr (.inr rfl),wy,⟨m0,m1⟩,fun z=>absurd (show Str.ofString "limit" = Str.ofString "layer" from z) (by decide +kernel)⟩
theorem Tm:Bd ["_law_script", "_law_most", "_law_cell_here", "_law_many"] ["_law_script", "_law_most"] (As Ij):=⟨rfl,rfl,rfl,by decide +kernel,rfl,by decide +kernel,by decide +kernel⟩
theorem Tx {f:Addr} {fd:zCG} (F:Fun K "_law_world" "_law_world" Ij f fd) (T:Txt K mg) (C_law_cell:Cq P w K mg base 1 "_law_cell" ["_law_script", "_law_k"] (Nu K)) (C_law_spread:Cq P w K mg base 1 "_law_spread" ["_law_cell_here"] Jn) (C_law_names:Cq P w K mg base 1 "_law_names" ["_law_cell_here", "_law_many"] Wk):FnOk P w K mg base Da 2 f fd ["_law_script", "_law_most"] (Xj K):=by
 have sc:=Tm;refine F.ok sc (fun vs H Q E h=>?_) (fun cdv A outer s H vs Q E hr h=>?_)
 ·obtain⟨_,_,rfl,_⟩:=h
  rfl
 obtain⟨a,ns,rfl,ha,l63,q⟩:=h;refine⟨_,(Ae (Bf (i:=2) sc.nd rfl (Or.inl rfl) (Ax C_law_spread (hr.mono (by decide)) rfl (Aa (Ax C_law_cell (hr.mono (by decide)) rfl (Aa (pv 0) (Aa Al Af))) Af)))
   (Ae (Bf (i:=3) sc.nd rfl (Or.inl rfl) (Bc Bx (Bc By (Ax C_law_spread (hr.mono (by decide)) rfl (Aa (Ax C_law_cell (hr.mono (by decide)) rfl (Aa (pv 0) (Aa Al Af))) Af)) Al) (Bc Cm (pv 1) Al)))
   (Ao (Be (Ci (Aa (Ax C_law_names (hr.mono (by decide)) rfl (Aa (Bc By (pv 2) Al) (Aa Al Af))) (Aa (Ax C_law_names (hr.mono (by decide)) rfl (Aa (Bc By (pv 2) Al) (Aa Al Af))) (Aa (Ax C_law_names (hr.mono (by decide)) rfl (Aa (Bc By (pv 2) Al) (Aa Al Af))) (Aa (Ax C_law_names (hr.mono (by decide)) rfl (Aa (pv 2) (Aa (pv 3) Af))) Af))))))))),?_⟩
 refine (vE rfl ⟨a,ns,1,rfl,ha,by lia,l63,vE rfl (fun r r0 r1=>?_)⟩);refine Dr [some (.ref a),some (.int 5),some (.int r),none] rfl ?_;refine (vE rfl ⟨a,ns,0,rfl,ha,by lia,l63,vE rfl (fun r2 r20 r21=>(vF rfl rfl ⟨⟨by decide,by decide⟩,_,rfl,vF rfl rfl (vF rfl rfl ⟨(by show (0:Int)<5+1; decide),?_⟩)⟩))⟩);refine Mu 0 5 (md (b:=6) (by decide)) fun many n0 n5=>?_;refine (vE rfl (vF rfl rfl ⟨⟨by decide,by decide⟩,_,3,rfl,by lia,by decide,by decide,fun a1 A H1 s1 na1 ha1 NA lA=>?_⟩));refine (vE rfl (vF rfl rfl ⟨⟨by decide,by decide⟩,_,3,rfl,by lia,by decide,by decide,fun b1 B H2 s2 nb1 hb1 NB lB=>?_⟩));refine (vE rfl (vF rfl rfl ⟨⟨by decide,by decide⟩,_,3,rfl,by lia,by decide,by decide,fun c1 C H3 s3 nc1 hc1 NC lC=>?_⟩));refine (vE rfl (vE rfl ⟨r,many,rfl,r0,n0,by lia,fun d1 D H4 s4 nd1 hd1 ND lD=>⟨Cf (by show 4<=1000; decide),fun wl nwl=>?_⟩⟩));have s5:=An nwl (.lst [V.ref a1,.ref b1,.ref c1,.ref d1]);exact q wl A B C D _ (s1.trans (s2.trans (s3.trans (s4.trans s5)))) ⟨a1,b1,c1,d1,Ab,s5 _ _ (s4 _ _ (s3 _ _ (s2 _ _ ha1))),s5 _ _ (s4 _ _ (s3 _ _ hb1)),s5 _ _ (s4 _ _ hc1),s5 _ _ hd1⟩ ⟨NA,NB,NC,ND,by lia,by lia,by lia,by lia⟩
def O4 (n:Str):Prop:=∃ l,n=tx l/\Tg l
def Pw:Co->Prop
 | .alw=>True
 | .cau n=>O4 n
 | .thi n=>O4 n
 | .day a b=>0<=a/\a<=b/\b<=1000000
 | .ovr m=>0<=m/\m<=999999999999
theorem Ed {H H':Hp} {p:Addr} {o:HO} (h:H p=none) (s:Same H H'):Same H (upd H' p o):=fun b u e=>by rw[Ar (Ap e h)]; exact s _ _ e
theorem Ri {H:Hp} {y d:Addr} {o1 o2:HO} (hy:H y=none) (hd:H d=none):Same H (upd (upd H d o1) y o2):=fun b o e=>by rw[Ar (Ap e hy),Ar (Ap e hd)]; exact e
theorem Gr {H:Hp} {y d:Addr} {o1 o2 o3:HO} (hy:H y=none) (hd:H d=none):Same H (upd (upd (upd H d o1) y o2) y o3):=fun b o e=>by rw[Ar (Ap e hy),Ar (Ap e hy),Ar (Ap e hd)]; exact e
def Off (p:Addr) (H:Hp):Hp:=fun b=>if b=p then none else H b
theorem Off.at {p b:Addr} {H:Hp} {o:HO} (h:Off p H b=some o):b≠p/\H b=some o:=by
 unfold Off at h;by_cases e:b=p
 ·rw[if_pos e] at h; cases h
 ·rw[if_neg e] at h; exact⟨e,h⟩
theorem Off.of {p b:Addr} {H:Hp} {o:HO} (n:b≠p) (h:H b=some o):Off p H b=some o:=by
 unfold Off;rw[if_neg n]; exact h
def N2:Sp:=fun vs H Q _=>∃ c u:Int,∃ th ca,∃ B C:List Str,vs=[.int c,.ref th,.ref ca,.int u]/\0<=c/\Iu u/\H th=some (.lst (B.map V.str))/\H ca=some (.lst (C.map V.str))/\B.length=3/\C.length=3/\(∀ z∈B,O4 z)/\(∀ z∈C,O4 z)/\∀ v t H',Same H H'->TrAt (Nw H H') v t->Ow t<3->Ng Pw t->Q v H'
theorem Jr {ns:List Str} {i:Int} (h0:0<=i) (h:i<ns.length):∃ z,z∈ns/\Nf (ns.map V.str) i=some (.str z):=by
 obtain⟨j,rfl⟩:=Int.eq_ofNat_of_zero_le h0;have hj:j<ns.length:=by lia
 refine⟨ns[j],zBc _,Ey ?_⟩;rw[zAs,zAe hj];rfl
theorem Yn:Bd ["_law_cell_here", "_law_things", "_law_causes", "_law_unit_here", "_law_cause", "_law_thing", "_law_over", "_law_first", "_law_some"] ["_law_cell_here", "_law_things", "_law_causes", "_law_unit_here"] (As Ke):=⟨rfl,rfl,rfl,by decide +kernel,rfl,by decide +kernel,by decide +kernel⟩
theorem Wu {f:Addr} {fd:zCG} (F:Fun K "_law_cond" "_law_cond" Ke f fd) (T:Txt K mg) (C_law_amount:Cq P w K mg base 1 "_law_amount" ["_law_digit", "_law_unit_here"] A4):FnOk P w K mg base Da 2 f fd ["_law_cell_here", "_law_things", "_law_causes", "_law_unit_here"] N2:=by
 have sc:=Yn;refine F.ok sc (fun vs H Q E h=>?_) (fun cdv A outer s H vs Q E hr h=>?_)
 ·obtain⟨_,_,_,_,_,_,rfl,_⟩:=h
  rfl
 obtain⟨c,u,th,ca,B,C,rfl,c0,uo,hth,hca,lB,lC,nB,nC,q⟩:=h;refine⟨_,(Ae (Bf (i:=4) sc.nd rfl (Or.inl rfl) (Cd (Aa Bz (Aa (Bh Bp (pv 2) (Bc Bx (Bc By (pv 0) Al) Al) (fun _ _=>rfl)) Af))))
   (Ae (Bf (i:=5) sc.nd rfl (Or.inl rfl) (Cd (Aa Bz (Aa (Bh Bp (pv 1) (Bc Bx (Bc By (pv 0) Al) Al) (fun _ _=>rfl)) Af))))
   (Ae (Bf (i:=6) sc.nd rfl (Or.inl rfl) (Cd (Aa Bz (Aa (Ax C_law_amount (hr.mono (by decide)) rfl (Aa (Bc Bx (Bc By (pv 0) Al) Al) (Aa (pv 3) Af))) Af))))
   (Ae (Bf (i:=7) sc.nd rfl (Or.inl rfl) (Bc Cm (Bc Dy Al (Bc Bx (Bc By (pv 0) Al) Al)) (Bc Bx (Bc By (pv 0) Al) Al)))
   (Ae (Bf (i:=8) sc.nd rfl (Or.inl rfl) (Ci (Aa (pv 4) (Aa (pv 5) (Aa (pv 6) (Aa (Cd (Aa Bz (Aa (pv 7) (Aa (Bc Cm (pv 7) (Bc Bx (Bc By (pv 0) Al) Al)) Af)))) (Aa (Cd (Aa Bz (Aa (pv 4) Af))) Af)))))))
   (Ae (Bf (i:=8) sc.nd rfl (Or.inl rfl) (Bc Kb (pv 8) (Ci (Aa (Cd (Aa Bz (Aa (Ci (Aa (Cd (Aa Bz (Aa (pv 6) Af))) (Aa (pv 5) Af))) Af))) (Aa (Cd (Aa Bz (Aa (Ci (Aa (pv 4) (Aa (pv 5) (Aa (pv 6) Af)))) Af))) Af)))))
   (Ae (Bw (Bj Vt (Bc Bx (pv 0) Al) Al (Bm _))
    (Ao (Be (Bh Bp (pv 8) (Bc Lu (Bc Bx (pv 0) Al) Al) (fun _ _=>rfl))))
    Bl)
   (Ao (Be (Cd (Aa Bz Af))))))))))),?_⟩
 have two:2<=sizeLine:=by rw[zCE]; decide
 have three:3<=sizeLine:=by rw[zCE]; decide
 have five:5<=sizeLine:=by rw[zCE]; decide
 have one:1<=sizeLine:=by rw[zCE]; decide
 obtain⟨n1,i1,a1⟩:=Jr (ns:=C) (i:=c/10%3) (by lia) (by lia);obtain⟨n2,i2,a2⟩:=Jr (ns:=B) (i:=c/30%3) (by lia) (by lia);have o1:=nC n1 i1;have o2:=nB n2 i2;refine (vE rfl (vE rfl (vF rfl rfl ⟨⟨by decide,by decide⟩,_,_,rfl,rfl,(by show (0:Int)<3; decide),vI rfl rfl (SqL.of hca) a1 ⟨two,fun t1 k1=>?_⟩⟩)));refine Dr [some (.int c),some (.ref th),some (.ref ca),some (.int u),some (.ref t1),none,none,none,none] rfl ?_;have s1:=An k1 (.tup [V.str "cause",.str n1]);have h1:upd H t1 (.tup [V.str "cause",.str n1]) t1=some (.tup [V.str "cause",.str n1]):=Ab;generalize upd H t1 (.tup [V.str "cause",.str n1])=H1 at s1 h1;refine (vE rfl (vE rfl (vF rfl rfl ⟨⟨by decide,by decide⟩,_,_,rfl,rfl,(by show (0:Int)<3; decide),vI rfl rfl (SqL.of (s1 _ _ hth)) a2 ⟨two,fun t2 k2=>?_⟩⟩)));refine Dr [some (.int c),some (.ref th),some (.ref ca),some (.int u),some (.ref t1),some (.ref t2),none,none,none] rfl ?_;have s2:=An k2 (.tup [V.str "thing",.str n2]);have h2:upd H1 t2 (.tup [V.str "thing",.str n2]) t2=some (.tup [V.str "thing",.str n2]):=Ab;generalize upd H1 t2 (.tup [V.str "thing",.str n2])=H2 at s2 h2;have d90:=md (a:=c/90) (b:=39) (by decide);refine (vE rfl (vF rfl rfl ⟨⟨by decide,by decide⟩,_,_,rfl,rfl,(by show (0:Int)<39; decide),_,rfl,_,u,rfl,d90.1,uo,fun m m0 m1=>⟨two,fun t3 k3=>?_⟩⟩));refine Dr [some (.int c),some (.ref th),some (.ref ca),some (.int u),some (.ref t1),some (.ref t2),some (.ref t3),none,none] rfl ?_;have s3:=An k3 (.tup [V.str "over",.int m]);have h3:upd H2 t3 (.tup [V.str "over",.int m]) t3=some (.tup [V.str "over",.int m]):=Ab
 generalize upd H2 t3 (.tup [V.str "over",.int m])=H3 at s3 h3;refine (vE rfl (vF rfl rfl ⟨⟨by decide,by decide⟩,_,_,rfl,rfl,(by show (0:Int)<3; decide),_,_,rfl,rfl,.inl ⟨by decide,by decide⟩,vE rfl (vF rfl rfl ⟨⟨by decide,by decide⟩,_,_,rfl,rfl,(by show (0:Int)<4; decide),_,_,rfl,rfl,?_⟩)⟩));refine Mu 0 733 ⟨by lia,by lia⟩ fun fi f0 f1=>?_;have d42:=md (a:=c/42120) (b:=400) (by decide);refine (vE rfl (vE rfl (vE rfl (vE rfl (vE rfl (vE rfl (vF rfl rfl ⟨⟨by decide,by decide⟩,_,_,rfl,rfl,(by show (0:Int)<400; decide),_,_,rfl,rfl,three,fun t4 k4=>?_⟩)))))));generalize c/42120%400=e4 at d42;have s4:=An k4 (.tup [V.str "days",.int fi,.int (fi+e4)]);have h4:upd H3 t4 (.tup [V.str "days",.int fi,.int (fi+e4)]) t4=some (.tup [V.str "days",.int fi,.int (fi+e4)]):=Ab;generalize upd H3 t4 (.tup [V.str "days",.int fi,.int (fi+e4)])=H4 at s4 h4;refine (vE rfl ⟨two,fun t5 k5=>?_⟩);have s5:=An k5 (.tup [V.str "not",.ref t1]);have h5:upd H4 t5 (.tup [V.str "not",.ref t1]) t5=some (.tup [V.str "not",.ref t1]):=Ab;generalize upd H4 t5 (.tup [V.str "not",.ref t1])=H5 at s5 h5;refine⟨five,fun l1 j1=>?_⟩;have s6:=An j1 (.lst [V.ref t1,.ref t2,.ref t3,.ref t4,.ref t5]);have g6:upd H5 l1 (.lst [V.ref t1,.ref t2,.ref t3,.ref t4,.ref t5]) l1=some (.lst [V.ref t1,.ref t2,.ref t3,.ref t4,.ref t5]):=Ab;generalize upd H5 l1 (.lst [V.ref t1,.ref t2,.ref t3,.ref t4,.ref t5])=H6 at s6 g6;refine Dr [some (.int c),some (.ref th),some (.ref ca),some (.int u),some (.ref t1),some (.ref t2),some (.ref t3),some (.int fi),some (.ref l1)] rfl ?_
 refine (vE rfl (vE rfl ⟨two,fun t6 k6=>?_⟩));have s7:=An k6 (.tup [V.str "not",.ref t3]);have h6:upd H6 t6 (.tup [V.str "not",.ref t3]) t6=some (.tup [V.str "not",.ref t3]):=Ab;generalize upd H6 t6 (.tup [V.str "not",.ref t3])=H7 at s7 h6;refine (vE rfl ⟨two,fun l2 j2=>?_⟩);have s8:=An j2 (.lst [V.ref t6,.ref t2]);have g8:upd H7 l2 (.lst [V.ref t6,.ref t2]) l2=some (.lst [V.ref t6,.ref t2]):=Ab;generalize upd H7 l2 (.lst [V.ref t6,.ref t2])=H8 at s8 g8;refine⟨two,fun t7 k7=>?_⟩;have s9:=An k7 (.tup [V.str "all",.ref l2]);have h7:upd H8 t7 (.tup [V.str "all",.ref l2]) t7=some (.tup [V.str "all",.ref l2]):=Ab;generalize upd H8 t7 (.tup [V.str "all",.ref l2])=H9 at s9 h7;refine (vE rfl (vE rfl (vE rfl ⟨three,fun l3 j3=>?_⟩)));have s10:=An j3 (.lst [V.ref t1,.ref t2,.ref t3]);have g10:upd H9 l3 (.lst [V.ref t1,.ref t2,.ref t3]) l3=some (.lst [V.ref t1,.ref t2,.ref t3]):=Ab;generalize upd H9 l3 (.lst [V.ref t1,.ref t2,.ref t3])=H10 at s10 g10;refine⟨two,fun t8 k8=>?_⟩;have s11:=An k8 (.tup [V.str "some",.ref l3]);have h8:upd H10 t8 (.tup [V.str "some",.ref l3]) t8=some (.tup [V.str "some",.ref l3]):=Ab;generalize upd H10 t8 (.tup [V.str "some",.ref l3])=H11 at s11 h8;refine⟨two,fun l4 j4=>?_⟩;have s12:=An j4 (.lst [V.ref t7,.ref t8]);have g12:upd H11 l4 (.lst [V.ref t7,.ref t8]) l4=some (.lst [V.ref t7,.ref t8]):=Ab;generalize upd H11 l4 (.lst [V.ref t7,.ref t8])=H12 at s12 g12;have s12':=s7.trans (s8.trans (s9.trans (s10.trans (s11.trans s12))));refine⟨l1,l4,_,_,rfl,rfl,s12' _ _ g6,g12,Cf (by show 7<=1000; decide),fun l5 j5=>?_⟩
 have s13:=An j5 (.lst ([V.ref t1,.ref t2,.ref t3,.ref t4,.ref t5]++[V.ref t7,.ref t8]));have g13:upd H12 l5 (.lst ([V.ref t1,.ref t2,.ref t3,.ref t4,.ref t5]++[V.ref t7,.ref t8])) l5=some (.lst [V.ref t1,.ref t2,.ref t3,.ref t4,.ref t5,.ref t7,.ref t8]):=Ab;generalize upd H12 l5 (.lst ([V.ref t1,.ref t2,.ref t3,.ref t4,.ref t5]++[V.ref t7,.ref t8]))=H13 at s13 g13;refine Dr [some (.int c),some (.ref th),some (.ref ca),some (.int u),some (.ref t1),some (.ref t2),some (.ref t3),some (.int fi),some (.ref l5)] rfl ?_;have S13:=s12'.trans s13;have S6:=s4.trans (s5.trans s6);have z3:=S13 _ _ (S6 _ _ h3);have z2:=S13 _ _ (S6 _ _ (s3 _ _ h2));have z1:=S13 _ _ (S6 _ _ (s3 _ _ (s2 _ _ h1)));have SS:Same H H13:=s1.trans (s2.trans (s3.trans (S6.trans S13)));have a3:=s1.trans (s2.trans s3);have a4:=a3.trans s4;have a6:=a3.trans S6;have a7:=a6.trans s7;have a8:=a7.trans s8;have a9:=a8.trans s9;have a10:=a9.trans s10;have T1:TrAt (Nw H H13) (.ref t1) (.at (.cau n1)):=by unfold TrAt; exact⟨t1,rfl,Nw.of k1 z1⟩
 have T2:TrAt (Nw H H13) (.ref t2) (.at (.thi n2)):=by unfold TrAt; exact⟨t2,rfl,Nw.of (s1.free k2) z2⟩
 have T3:TrAt (Nw H H13) (.ref t3) (.at (.ovr m)):=by unfold TrAt; exact⟨t3,rfl,Nw.of ((s1.trans s2).free k3) z3⟩
 have T4:TrAt (Nw H H13) (.ref t4) (.at (.day fi (fi+e4))):=by unfold TrAt; exact⟨t4,rfl,Nw.of (a3.free k4) (S13 _ _ (s6 _ _ (s5 _ _ h4)))⟩
 have T5:TrAt (Nw H H13) (.ref t5) (.no (.at (.cau n1))):=by unfold TrAt; exact⟨t5,_,rfl,Nw.of (a4.free k5) (S13 _ _ (s6 _ _ h5)),T1⟩
 have T6:TrAt (Nw H H13) (.ref t6) (.no (.at (.ovr m))):=by unfold TrAt; exact⟨t6,_,rfl,Nw.of (a6.free k6) (s13 _ _ (s12 _ _ (s11 _ _ (s10 _ _ (s9 _ _ (s8 _ _ h6)))))),T3⟩
 have T7:TrAt (Nw H H13) (.ref t7) (.al [.no (.at (.ovr m)),.at (.thi n2)]):=by
  unfold TrAt;refine⟨t7,l2,_,rfl,Nw.of (a8.free k7) (s13 _ _ (s12 _ _ (s11 _ _ (s10 _ _ h7)))),Nw.of (a7.free j2) (s13 _ _ (s12 _ _ (s11 _ _ (s10 _ _ (s9 _ _ g8))))),?_⟩;unfold TrsAt;refine⟨T6,?_⟩;unfold TrsAt;refine⟨T2,?_⟩;unfold TrsAt;trivial
 have T8:TrAt (Nw H H13) (.ref t8) (.so [.at (.cau n1),.at (.thi n2),.at (.ovr m)]):=by
  unfold TrAt;refine⟨t8,l3,_,rfl,Nw.of (a10.free k8) (s13 _ _ (s12 _ _ h8)),Nw.of (a9.free j3) (s13 _ _ (s12 _ _ (s11 _ _ g10))),?_⟩;unfold TrsAt;refine⟨T1,?_⟩;unfold TrsAt;refine⟨T2,?_⟩;unfold TrsAt;refine⟨T3,?_⟩;unfold TrsAt;trivial
 have om:0<=m/\m<=999999999999:=⟨m0,by lia⟩;have K1:Ng Pw (.at (.cau n1)):=by unfold Ng; exact o1
 have K2:Ng Pw (.at (.thi n2)):=by unfold Ng; exact o2
 have K3:Ng Pw (.at (.ovr m)):=by unfold Ng; exact om
 have K4:Ng Pw (.at (.day fi (fi+e4))):=by unfold Ng; exact⟨f0,by lia,by lia⟩
 have K5:Ng Pw (.no (.at (.cau n1))):=by unfold Ng; exact K1
 have K6:Ng Pw (.no (.at (.ovr m))):=by unfold Ng; exact K3
 have K7:Ng Pw (.al [.no (.at (.ovr m)),.at (.thi n2)]):=by
  unfold Ng;refine⟨by simp,by simp,U8 fun t ht=>?_⟩;simp at ht;rcases ht with rfl | rfl
  ·exact K6
  ·exact K2
 have K8:Ng Pw (.so [.at (.cau n1),.at (.thi n2),.at (.ovr m)]):=by
  unfold Ng;refine⟨by simp,by simp,U8 fun t ht=>?_⟩;simp at ht;rcases ht with rfl | rfl | rfl
  ·exact K1
  ·exact K2
  ·exact K3
 refine (vE rfl (vF rfl rfl ⟨(by show (0:Int)<10; decide),_,_,rfl,rfl,vE rfl ?_⟩));by_cases c10:c%10>2
 ·refine dT c10 ?_
  have cs:c%10-3=0\/c%10-3=1\/c%10-3=2\/c%10-3=3\/c%10-3=4\/c%10-3=5\/c%10-3=6:=by lia
  obtain⟨v,t,ev,tv,hv,kv⟩:∃ v t,Nf [V.ref t1,.ref t2,.ref t3,.ref t4,.ref t5,.ref t7,.ref t8] (c%10-3)=some v/\TrAt (Nw H H13) v t/\Ow t<3/\Ng Pw t:=by
   rcases cs with e | e | e | e | e | e | e <;> rw[e]
   ·exact⟨_,_,rfl,T1,by simp [Ow,hgts],K1⟩
   ·exact⟨_,_,rfl,T2,by simp [Ow,hgts],K2⟩
   ·exact⟨_,_,rfl,T3,by simp [Ow,hgts],K3⟩
   ·exact⟨_,_,rfl,T4,by simp [Ow,hgts],K4⟩
   ·exact⟨_,_,rfl,T5,by simp [Ow,hgts],K5⟩
   ·exact⟨_,_,rfl,T7,by simp [Ow,hgts],K7⟩
   ·exact⟨_,_,rfl,T8,by simp [Ow,hgts],K8⟩
  exact (vE rfl (vE rfl (vF rfl rfl ⟨(by show (0:Int)<10; decide),_,_,rfl,rfl,vI rfl rfl (SqL.of g13) ev (q v t _ SS tv hv kv)⟩)))
 ·refine dF c10 ⟨one,fun t9 k9=>?_⟩
  exact q _ (.at .alw) _ (SS.trans (An k9 _)) (by unfold TrAt; exact⟨t9,rfl,Nw.of (SS.free k9) Ab⟩) (by decide) (by unfold Ng; trivial)
theorem PF:(10:Int)^(12:Int).toNat=1000000000000:=by decide +kernel
theorem e6:(10:Int)^(6:Int).toNat=1000000:=by decide +kernel
theorem e9:(10:Int)^(9:Int).toNat=1000000000:=by decide +kernel
def O0:Sp:=fun vs H Q _=>∃ c u:Int,∃ w A B C D,vs=[.int c,.ref w,.int u]/\Iu u/\WorldAt H w A B C D/\OQ A B C D/\∀ t z H',Same H H'->H t=none->H' t=some (.tup (LF.vs z))->0<z.ct->Q (.ref t) H'
theorem E8:Str.ofString "." = tx [46]:=by decide +kernel
theorem J1 {ns:List Str} (N:FA ns) {z:Str} (h:z∈ns):z.length<=8:=(N.ok z h).2.1
theorem Xl:Bd ["_law_cell_here", "_law_world_here", "_law_unit_here", "_law_drawn", "_law_number", "_law_cents", "_law_date", "_law_day", "_law_deep", "_law_events", "_law_thing"] ["_law_cell_here", "_law_world_here", "_law_unit_here"] (As Jw):=⟨rfl,rfl,rfl,by decide +kernel,rfl,by decide +kernel,by decide +kernel⟩
theorem Xe {f:Addr} {fd:zCG} (F:Fun K "_law_loss" "_law_loss" Jw f fd) (T:Txt K mg):FnOk P w K mg base Da 1 f fd ["_law_cell_here", "_law_world_here", "_law_unit_here"] O0:=by
 have sc:=Xl;refine F.ok sc (fun vs H Q E h=>?_) (fun cdv A outer s H vs Q E hr h=>?_)
 ·obtain⟨_,_,_,_,_,_,_,rfl,_⟩:=h
  rfl
 obtain⟨c,u,wl,A,B,C,D,rfl,⟨u1,u2⟩,wa,W,q⟩:=h;refine⟨_,(Ae (Bf (i:=3) sc.nd rfl (Or.inl rfl) (Bc Bx (Bc Dy (pv 0) Al) Al))
   (Ae (Bf (i:=4) sc.nd rfl (Or.inl rfl) (Bc Bx (Bc By (pv 3) Al) Al))
   (Ae (Bf (i:=5) sc.nd rfl (Or.inl rfl) (Bc Cm (Bc Cm Al (Bc Dy (Bc Bx (pv 3) Al) (pv 2))) (Bc Bx (Bc By (pv 3) Al) Al)))
   (Ae (Bf (i:=6) sc.nd rfl (Or.inl rfl) (Bc Bx (Bc By (pv 3) Al) Al))
   (Ae (Bf (i:=7) sc.nd rfl (Or.inl rfl) (Bc Cm (Bc Dy Al (Bc By (pv 6) Al)) (Bh Bp (Ci (Aa Al (Aa Al (Aa Al (Aa Al Af))))) (Bc Bx (pv 6) Al) (fun _ _=>rfl))))
   (Ae (Bw (Bj Di (Bc Bx (Bc By (pv 3) Al) Al) Al (Bm _))
    (Ae (Bf (i:=5) sc.nd rfl (Or.inl rfl) (Bc Cm Al (Bc Bx (pv 0) (Bc Lu (Bc Qx Al Al) Al))))
   (Ae (Bf (i:=7) sc.nd rfl (Or.inl rfl) (Bc Bx (pv 0) (Bc Cm (Bc Qx Al Al) Al)))
   (Ao (Bf (i:=4) sc.nd rfl (Or.inl rfl) (Bc Bx (pv 0) (Bc Cm (Bc Qx Al Al) Al))))))
    Bl)
   (Ae (Bf (i:=8) sc.nd rfl (Or.inl rfl) (Bc Gf (Bc Gf (Bh Bp (Bh Bp (pv 1) Al (fun _ _=>rfl)) Al (fun _ _=>rfl)) Bz) (Bh Bp (Bh Bp (pv 1) Al (fun _ _=>rfl)) Al (fun _ _=>rfl))))
   (Ae (Bf (i:=9) sc.nd rfl (Or.inl rfl) (Bc Kb (Bh Bp (pv 1) Al (fun _ _=>rfl)) (Ci (Aa (Bc Gf (Bc Gf (pv 8) Bz) (Bh Bp (Bh Bp (pv 1) Al (fun _ _=>rfl)) Al (fun _ _=>rfl))) Af))))
   (Ae (Bf (i:=10) sc.nd rfl (Or.inl rfl) (Bh Bp (Bh Bp (pv 1) Al (fun _ _=>rfl)) (Bc Bx (Bc By (pv 3) Al) Al) (fun _ _=>rfl)))
   (Ao (Be (Cd (Aa (pv 4) (Aa (pv 7) (Aa (Bh Bp (pv 9) (Bc Bx (Bc By (pv 3) Al) Al) (fun _ _=>rfl)) (Aa (pv 10) (Aa (Bh Bp (Bh Bp (pv 1) Al (fun _ _=>rfl)) (Bc Bx (Bc By (pv 3) Al) Al) (fun _ _=>rfl)) (Aa (pv 5) Af)))))))))))))))))),?_⟩
 have one:1<=sizeLine:=by rw[zCE]; decide
 obtain⟨la,lb,lc,ld,hw,ha,hb,hc,hd⟩:=wa;have eA:=W.la;have eB:=W.lb;have eC:=W.lc;refine (vE rfl (vF rfl rfl ⟨.inr ⟨by decide,by decide⟩,vF rfl rfl ⟨(by show (0:Int)<2147483647; decide),?_⟩⟩));refine Mu 0 2147483646 (md (by decide)) fun r r0 r1=>?_;refine (vE rfl (vF rfl rfl ⟨⟨by decide,by decide⟩,_,_,rfl,rfl,(by show (0:Int)<5; decide),?_⟩));refine Mu 0 4 (md (by decide)) fun nu nu0 nu4=>?_;have m25:=md (a:=r) (b:=25) (by decide);have p0:0<=r%25*u:=Int.mul_nonneg m25.1 (by lia);refine (vE rfl (vF rfl rfl ⟨(by show (0:Int)<25; decide),_,rfl,vF rfl rfl ⟨.inr ⟨by lia,by lia⟩,vF rfl rfl (vE rfl (vF rfl rfl ⟨⟨by decide,by decide⟩,_,_,rfl,rfl,(by show (0:Int)<4; decide),_,_,rfl,rfl,?_⟩))⟩⟩));have m4:=md (a:=r/25) (b:=4) (by decide);obtain⟨ce,ece,ce0⟩:∃ ce:Int,ce=1+r%25*u+r/25%4/\0<ce:=⟨_,rfl,by lia⟩;refine Dr [some (.int c),some (.ref wl),some (.int u),some (.int r),some (.int nu),some (.int ce),none,none,none,none,none] (by rw[ece]; rfl) ?_;refine (vE rfl (vF rfl rfl ⟨⟨by decide,by decide⟩,_,_,rfl,rfl,(by show (0:Int)<12; decide),?_⟩));refine Mu 0 11 (md (by decide)) fun dt dt0 dt1=>?_;refine (vE rfl (vF rfl rfl ⟨⟨by decide,by decide⟩,_,_,rfl,rfl,.inl ⟨by decide,by decide⟩,Cf (by show 4<=1000; decide),fun l1 k1=>?_⟩));have f4:dt%4=0\/dt%4=1\/dt%4=2\/dt%4=3:=by lia
 obtain⟨dd,hdd⟩:∃ dd:Int,Nf [V.int 0,.int 1,.int 2,.int 364] (dt%4)=some (.int dd):=by
  rcases f4 with e | e | e | e <;> rw[e]
  ·exact⟨_,rfl⟩
  ·exact⟨_,rfl⟩
  ·exact⟨_,rfl⟩
  ·exact⟨_,rfl⟩
 have s1:=An k1 (.lst [V.int 0,.int 1,.int 2,.int 364]);refine (vE rfl (vF rfl rfl ⟨(by show (0:Int)<4; decide),vI rfl rfl (SqL.of Ab) hdd (vF rfl rfl ?_)⟩));generalize upd H l1 (.lst [V.int 0,.int 1,.int 2,.int 364])=H1 at s1;obtain⟨day,eday⟩:∃ day:Int,day=365*(dt/4)+dd:=⟨_,rfl⟩;refine Dr [some (.int c),some (.ref wl),some (.int u),some (.int r),some (.int nu),some (.int ce),some (.int dt),some (.int day),none,none,none] (by rw[eday]; rfl) ?_;refine (vE rfl (vF rfl rfl ⟨⟨by decide,by decide⟩,_,_,rfl,rfl,(by show (0:Int)<9; decide),rfl,vE rfl ?_⟩));refine HQ (fun σ H'=>(∃ n' ce' day':Int,σ=[some (.int c),some (.ref wl),some (.int u),some (.int r),some (.int n'),some (.int ce'),some (.int dt),some (.int day'),none,none,none]/\0<ce')/\H'=H1) (fun _ N R=>?_) (fun _ N R=>R _ _ ⟨⟨_,_,_,rfl,ce0⟩,rfl⟩) ?_
 ·refine (vE rfl (vF rfl rfl ⟨⟨by decide,by decide,by decide⟩,_,_,rfl,rfl,vF rfl rfl ⟨(by show (0:Int)<(10:Int)^(12:Int).toNat-1; rw[PF]; decide),_,_,rfl,rfl,?_⟩⟩))
  refine (vE rfl (vF rfl rfl ⟨⟨by decide,by decide,by decide⟩,_,_,rfl,rfl,vF rfl rfl ⟨(by show (0:Int)<(10:Int)^(6:Int).toNat+1; rw[e6]; decide),?_⟩⟩));refine (vE rfl (vF rfl rfl ⟨⟨by decide,by decide,by decide⟩,_,_,rfl,rfl,vF rfl rfl ⟨(by show (0:Int)<(10:Int)^(9:Int).toNat+1; rw[e9]; decide),R _ _ ⟨⟨_,_,_,rfl,?_⟩,rfl⟩⟩⟩));have:=Int.emod_nonneg c (b:=(10:Int)^(12:Int).toNat-1) (by rw[PF]; decide);show 0<1+c%((10:Int)^(12:Int).toNat-1)
  lia
 rintro σ H' ⟨⟨n',ce',day',rfl,ce0'⟩,rfl⟩;have hw1:=s1 _ _ hw;have ha1:=s1 _ _ ha;obtain⟨x0,i0,y0⟩:=Jr (ns:=A) (i:=0) (by lia) (by lia);obtain⟨x1,i1,y1⟩:=Jr (ns:=A) (i:=1) (by lia) (by lia);obtain⟨x2,i2,y2⟩:=Jr (ns:=A) (i:=2) (by lia) (by lia);have L0:=J1 W.a i0;have L1:=J1 W.a i1;have L2':=J1 W.a i2;have ld1:(Str.ofString ".").length=1:=by decide +kernel
 have at0:Nf [V.ref la,.ref lb,.ref lc,.ref ld] 0=some (.ref la):=rfl;have at1:Nf [V.ref la,.ref lb,.ref lc,.ref ld] 1=some (.ref lb):=rfl;have at2:Nf [V.ref la,.ref lb,.ref lc,.ref ld] 2=some (.ref lc):=rfl;have tx0:∀ x:Str,∃ l,x=tx l:=fun x=>⟨_,(CP x).symm⟩;obtain⟨l0,rfl⟩:=tx0 x0;obtain⟨l1',rfl⟩:=tx0 x1;obtain⟨l2,rfl⟩:=tx0 x2;rw[Fx] at L0 L1 L2';refine (vE rfl (vI rfl rfl (SqL.of hw1) at0 (vI rfl rfl (SqL.of ha1) y0 (vF rfl rfl ⟨by rw[ld1,Fx]; exact Cf (by lia),_,rfl,vI rfl rfl (SqL.of hw1) at0 (vI rfl rfl (SqL.of ha1) y1 (vF rfl rfl ⟨?_,?_⟩))⟩))))
 ·rw[E8,Sh,Fx,Fx,zAo]
  exact Cf (by show l0.length+1+l1'.length<=1000; lia)
 refine Dr [some (.int c),some (.ref wl),some (.int u),some (.int r),some (.int n'),some (.int ce'),some (.int dt),some (.int day'),some (.str (tx (l0++[46]++l1'))),none,none] (by exact congrArg (fun z:Str=>[some (V.int c),some (V.ref wl),some (V.int u),some (V.int r),some (V.int n'),some (V.int ce'),some (V.int dt),some (V.int day'),some (V.str z),none,none]) (by rw[E8,Sh,Sh])) ?_;refine (vE rfl (vI rfl rfl (SqL.of hw1) at0 (vE rfl (vF rfl rfl ⟨?_,_,rfl,vI rfl rfl (SqL.of hw1) at0 (vI rfl rfl (SqL.of ha1) y2 (vF rfl rfl ⟨?_,one,fun e2 k2=>?_⟩))⟩))))
 ·rw[ld1,Fx,zAo,zAo]
  exact Cf (by show l0.length+1+l1'.length+1<=1000; lia)
 ·rw[E8,Sh,Fx,Fx,zAo,zAo,zAo]
  exact Cf (by show l0.length+1+l1'.length+1+l2.length<=1000; lia)
 have s2:=An k2 (.lst [V.str (tx (l0++[46]++l1')++Str.ofString "." ++ tx l2)]);refine⟨la,e2,_,_,rfl,rfl,s2 _ _ ha1,Ab,by rw[zAb,eA]; exact Cf (by show 3+1<=1000; decide),fun ev k3=>?_⟩;have s3:=s2.trans (An k3 (.lst (A.map V.str++[V.str (tx (l0++[46]++l1')++Str.ofString "." ++ tx l2)])));obtain⟨dp,edp⟩:∃ dp:Str,dp=tx (l0++[46]++l1')++Str.ofString "." ++ tx l2:=⟨_,rfl⟩;have h3:upd (upd H' e2 (.lst [V.str (tx (l0++[46]++l1')++Str.ofString "." ++ tx l2)])) ev (.lst (A.map V.str++[V.str (tx (l0++[46]++l1')++Str.ofString "." ++ tx l2)])) ev=some (.lst ((A++[dp]).map V.str)):=by
  rw[Ab,zAq,edp];rfl
 generalize upd (upd H' e2 (.lst [V.str (tx (l0++[46]++l1')++Str.ofString "." ++ tx l2)])) ev (.lst (A.map V.str++[V.str (tx (l0++[46]++l1')++Str.ofString "." ++ tx l2)]))=H3 at s3 h3;refine Dr [some (.int c),some (.ref wl),some (.int u),some (.int r),some (.int n'),some (.int ce'),some (.int dt),some (.int day'),some (.str (tx (l0++[46]++l1'))),some (.ref ev),none] rfl ?_;have S3:=s1.trans s3;have hw3:=S3 _ _ hw;obtain⟨xb,_,yb⟩:=Jr (ns:=B) (i:=r/400%3) (by lia) (by lia);obtain⟨xc,_,yc⟩:=Jr (ns:=C) (i:=r/1200%3) (by lia) (by lia);obtain⟨xe,_,ye⟩:=Jr (ns:=A++[dp]) (i:=r/100%4) (by lia) (by rw[zAo,eA]; show r/100%4<((3+1:Nat):Int); lia);refine (vE rfl (vI rfl rfl (SqL.of hw3) at1 (vE rfl (vF rfl rfl ⟨⟨by decide,by decide⟩,_,_,rfl,rfl,(by show (0:Int)<3; decide),vI rfl rfl (SqL.of (S3 _ _ hb)) yb ?_⟩))));refine Dr [some (.int c),some (.ref wl),some (.int u),some (.int r),some (.int n'),some (.int ce'),some (.int dt),some (.int day'),some (.str (tx (l0++[46]++l1'))),some (.ref ev),some (.str xb)] rfl ?_;refine (vE rfl (vE rfl (vE rfl (vE rfl (vF rfl rfl ⟨⟨by decide,by decide⟩,_,_,rfl,rfl,(by show (0:Int)<4; decide),vI rfl rfl (SqL.of h3) ye (vE rfl (vE rfl (vI rfl rfl (SqL.of hw3) at2 (vE rfl (vF rfl rfl ⟨⟨by decide,by decide⟩,_,_,rfl,rfl,(by show (0:Int)<3; decide),vI rfl rfl (SqL.of (S3 _ _ hc)) yc (vE rfl ⟨Cf (by show 6<=1000; decide),fun t nt=>?_⟩)⟩)))))⟩)))));exact q t ⟨n',day',xe,xb,xc,ce'⟩ _ (S3.trans (An nt _)) (S3.free nt) Ab ce0'
end
def LfsAt (H:Hp):List V->List LF->Prop
 | [],[]=>True
 | x::xs,z::zs=>(∃ t,x = .ref t/\H t=some (.tup z.vs))/\LfsAt H xs zs
 | _,_=>False
theorem LfsAt.len {H:Hp}:∀ {xs:List V} {zs:List LF},LfsAt H xs zs->xs.length=zs.length
 | [],[],_=>rfl
 | [],_::_,h=>h.elim
 | _::_,[],h=>h.elim
 | x::xs,p::ps,h=>by rw[zAg,zAg,LfsAt.len h.2]
theorem LfsAt.mono {H H':Hp} (s:GK H H'):∀ {xs:List V} {zs:List LF},LfsAt H xs zs->LfsAt H' xs zs
 | [],[],_=>trivial
 | [],_::_,h=>h.elim
 | _::_,[],h=>h.elim
 | x::xs,p::ps,⟨⟨t,e,h⟩,r⟩=>⟨⟨t,e,s _ _ h⟩,LfsAt.mono s r⟩
theorem LfsAt.snoc {H:Hp}:∀ {xs:List V} {zs:List LF} {t:Addr} {z:LF},LfsAt H xs zs->H t=some (.tup z.vs)->LfsAt H (xs++[.ref t]) (zs++[z])
 | [],[],t,_,_,h=>⟨⟨t,rfl,h⟩,trivial⟩
 | [],_::_,_,_,r,_=>r.elim
 | _::_,[],_,_,r,_=>r.elim
 | x::xs,p::ps,_,_,⟨z,r⟩,h=>⟨z,LfsAt.snoc r h⟩
theorem LfsAt.get {H:Hp}:∀ {xs:List V} {zs:List LF} {i:Nat} {x:V},LfsAt H xs zs->xs[i]?=some x->∃ t z,zs[i]?=some z/\x = .ref t/\H t=some (.tup (LF.vs z))
 | [],[],_,_,_,e=>by simp at e
 | [],_::_,_,_,h,_=>h.elim
 | _::_,[],_,_,h,_=>h.elim
 | x::xs,p::ps,0,y,⟨⟨t,e,h⟩,r⟩,q=>by
  simp at q;subst q;exact⟨t,p,rfl,e,h⟩
 | x::xs,p::ps,i+1,y,⟨_,r⟩,q=>by
  obtain⟨t,p',h1,h2⟩:=LfsAt.get (i:=i) r (by simpa using q);exact⟨t,p',by simpa using h1,h2⟩
theorem AB {ns:List Int} (m:Nat):∃ ms:List Int,D8 (ns.map V.int) none (some (m:Int))=ms.map V.int/\ms.length<=m:=by
 refine⟨ns.take (min m (ns.map V.int).length),?_,by rw[zAx]; lia⟩;unfold D8;rw[HT.sIx_nat,HT.sIx_none,List.drop_zero,Nat.sub_zero,List.map_take]
def Tf (K:zAa):Sp:=fun vs H Q _=>∃ a ns,∃ m:Nat,∃ u:Int,∃ w A B C D,vs=[.ref a,.int (m:Int),.ref w,.int u]/\SqL K H a (List.map V.int ns)/\ns.length<=63/\m<=63/\Iu u/\WorldAt H w A B C D/\OQ A B C D /\
 ∀ r xs zs H',Same H H'->H r=none->H' r=some (.lst xs)->LfsAt H' xs zs->zs.length<=m->(∀ z∈zs,0<z.ct)->Q (.ref r) H'
theorem WorldAt.same {H H':Hp} {w:Addr} {A B C D:List Str} (h:WorldAt H w A B C D) (s:Same H H'):WorldAt H' w A B C D:=by
 obtain⟨a,b,c,d,h0,h1,h2,h3,h4⟩:=h;exact⟨a,b,c,d,s _ _ h0,s _ _ h1,s _ _ h2,s _ _ h3,s _ _ h4⟩
section
variable {P:Program} {w:World} {K:zAa} {mg:Str->Option Value} {base:Heap}
theorem Rz:Bd ["_law_script", "_law_many", "_law_world_here", "_law_unit_here"] ["_law_script", "_law_many", "_law_world_here", "_law_unit_here"] (As He):=⟨rfl,rfl,rfl,by decide +kernel,rfl,by decide +kernel,by decide +kernel⟩
theorem Rf {f:Addr} {fd:zCG} (F:Fun K "_law_losses" "_law_losses" He f fd) (T:Txt K mg) (C_law_loss:Cq P w K mg base 1 "_law_loss" ["_law_cell_here", "_law_world_here", "_law_unit_here"] O0):FnOk P w K mg base Da 2 f fd ["_law_script", "_law_many", "_law_world_here", "_law_unit_here"] (Tf K):=by
 have sc:=Rz;refine F.ok sc (fun vs H Q E h=>?_) (fun cdv A outer s H vs Q E hr h=>?_)
 ·obtain⟨_,_,_,_,_,_,_,_,_,rfl,_⟩:=h
  rfl
 obtain⟨a,ns,m,u,wl,A,B,C,D,rfl,ha,l63,m63,uo,wa,W,q⟩:=h;refine⟨_,(Ao (Be (De (NC:=["_law_cell_here", "_law_world_here", "_law_unit_here"]) (own:=["_law_cell_here"]) (cs:=["_law_world_here", "_law_unit_here"]) (ix:=[2,3]) rfl (CompScope.of rfl) rfl ⟨⟨rfl,.inl rfl,rfl⟩,⟨⟨rfl,.inl rfl,rfl⟩,trivial⟩⟩ (Bt (Ru Wb (Bc Kb (JR (pv 0) (Yu Rg Al)) (Ci (Aa Al Af))) Yk (Yc (pv 1)))) (fun _ _ _=>(Ay (i:=0) (show (["_law_cell_here", "_law_world_here", "_law_unit_here"]:List Str).Nodup from by decide +kernel) rfl (Or.inl rfl))) (fun _ _ _=>Cu) (fun _ _ _=>(Ax C_law_loss (hr.mono (by decide)) rfl (Aa (pv 0) (Aa (pv 1) (Aa (pv 2) Af)))))))),?_⟩;have one:1<=sizeLine:=by rw[zCE]; decide
 refine (vE rfl (vE rfl ⟨rfl,a,_,rfl,ha,fun l1 k1=>⟨one,fun l2 k2=>?_⟩⟩));have s1:=An k1 (.lst (ns.map V.int).reverse);have h1:upd H l1 (.lst (ns.map V.int).reverse) l1=some (.lst (ns.map V.int).reverse):=Ab;generalize upd H l1 (.lst (ns.map V.int).reverse)=H1 at s1 h1 k2;have s2:=An k2 (.lst [V.int 0]);have h2:upd H1 l2 (.lst [V.int 0]) l2=some (.lst [V.int 0]):=Ab;generalize upd H1 l2 (.lst [V.int 0])=H2 at s2 h2;refine⟨l1,l2,_,_,rfl,rfl,s2 _ _ h1,h2,by rw[List.length_reverse,zAb]; exact Cf (by show ns.length+1<=1000; lia),fun l3 k3=>?_⟩;have e3:(ns.map V.int).reverse++[V.int 0]=(ns.reverse++[0]).map V.int:=by rw[zAq,List.map_reverse]; rfl
 rw[e3];have s3:=An k3 (.lst ((ns.reverse++[0]).map V.int));have h3:upd H2 l3 (.lst ((ns.reverse++[0]).map V.int)) l3=some (.lst ((ns.reverse++[0]).map V.int)):=Ab;generalize upd H2 l3 (.lst ((ns.reverse++[0]).map V.int))=H3 at s3 h3;refine (vE rfl (vE rfl ⟨l3,_,rfl,SqL.of h3,fun l4 k4=>?_⟩));obtain⟨ms,ems,lms⟩:=AB (ns:=ns.reverse++[0]) m;rw[ems];have s4:=An k4 (.lst (ms.map V.int));have h4:upd H3 l4 (.lst (ms.map V.int)) l4=some (.lst (ms.map V.int)):=Ab;generalize upd H3 l4 (.lst (ms.map V.int))=H4 at s4 h4;have S4:=s1.trans (s2.trans (s3.trans s4));have lm:(ms.map V.int).length=ms.length:=zAb _;refine⟨l4,rfl,⟨_,SqL.of h4⟩,fun r nr=>?_⟩;refine Cb (K:=K) (a:=l4) (xs:=ms.map V.int) (fun i ys H5=>(∃ zs,LfsAt H5 ys zs/\zs.length=i/\∀ z∈zs,0<z.ct)/\H5 r=some (.lst ys)/\Same H4 H5) ⟨⟨[],trivial,rfl,fun _ y=>nomatch y⟩,Ab,An nr _⟩
  (fun i ys H5 _ ⟨⟨zs,x1,x2,_⟩,x4,x5⟩=>⟨x4,by rw[x1.len,x2]; exact zAl _,SqL.of (x5 _ _ h4)⟩) (by rw[lm,zCE]; lia) (fun i x ys H5 hi ⟨⟨zs,x1,x2,x3⟩,x4,x5⟩=>?_) (fun ys H5 ⟨⟨zs,x1,x2,x3⟩,x4,x5⟩=>?_)
 ·rw[zAs] at hi
  obtain⟨c,_,rfl⟩:=zAJ.mp hi;refine (vE rfl (vE rfl (vE rfl ⟨c,u,wl,A,B,C,D,rfl,uo,wa.same (S4.trans x5),W,fun t z H6 s6 nt ht z0=>?_⟩)));refine⟨s6 _ _ x4,rfl,⟨zs++[z],((x1.mono (Bo s6)).snoc ht).mono (Dj (s6 _ _ x4) _),by rw[zAo,x2]; rfl,fun y hy=>?_⟩,Ab,fun b o y=>?_⟩
  ·rcases zAy.mp hy with g | g
   ·exact x3 y g
   ·rw[zAk.mp g]; exact z0
  ·rw[Ar (Ap y nr)]
   exact s6 _ _ (x5 b o y)
 exact q r ys zs H5 (S4.trans x5) (S4.free nr) x4 x1 (by lia) x3
end
def EE (CC CO CL CM:Addr):Sp:=fun vs H Q _=>∃ t r,vs=[.ref t]/\H t=some (.tup (GW r))/\MV r/\∀ p H',Same H H'->H p=none->ClAt CC CO CL CM H' p (Ky r)->Q (.ref p) H'
section
variable {P:Program} {w:World} {K:zAa} {mg:Str->Option Value} {base:Heap} {Ac Ag Ah Am Au Bb Ba At Ad Aw Ak Aj Bg Ai Az Aq:Addr}
theorem Sd:Bd ["_law_clause_here", "_law_word", "_law_by", "_law_low", "_law_high"] ["_law_clause_here"] (As Hk):=⟨rfl,rfl,rfl,by decide +kernel,rfl,by decide +kernel,by decide +kernel⟩
theorem Rk {f:Addr} {fd:zCG} (F:Fun K "_law_clause" "_law_clause" Hk f fd) (T:Txt K mg) (KOwn:Ej P w K mg base 4 "Own" Aw ["self", "by", "cents"] (CF Ad Aw Ak Aj)) (KLayer:Ej P w K mg base 4 "Layer" Ak ["self", "by", "first", "upto"] (BY Ad Aw Ak Aj)) (KLimit:Ej P w K mg base 4 "Limit" Aj ["self", "by", "most"] (DE Ad Aw Ak Aj)) :
  FnOk P w K mg base Da 6 f fd ["_law_clause_here"] (EE Ad Aw Ak Aj):=by
 have sc:=Sd;refine F.ok sc (fun vs H Q E h=>?_) (fun cdv A outer s H vs Q E hr h=>?_)
 ·obtain⟨_,_,rfl,_⟩:=h
  rfl
 obtain⟨t,⟨wd,y,lo,hi⟩,rfl,ht,⟨hw,wy,⟨m0,m1⟩,lay⟩,q⟩:=h;refine⟨_,(Ae (Xz (pv 0) (Ea (n:=4) rfl (Bk (Ay (i:=1) sc.nd rfl (Or.inl rfl)) (Bk (Ay (i:=2) sc.nd rfl (Or.inl rfl)) (Bk (Ay (i:=3) sc.nd rfl (Or.inl rfl)) (Bk (Ay (i:=4) sc.nd rfl (Or.inl rfl)) Dh))))))
   (Ae (Bw (Bj Di (pv 1) Bz (Bm _))
    (Ao (Be (Dd KOwn (hr.mono (by decide)) rfl (Aa (pv 2) (Aa (pv 3) Af)))))
    Bl)
   (Ae (Bw (Bj Di (pv 1) Bz (Bm _))
    (Ao (Be (Dd KLayer (hr.mono (by decide)) rfl (Aa (pv 2) (Aa (pv 3) (Aa (pv 4) Af))))))
    Bl)
   (Ao (Be (Dd KLimit (hr.mono (by decide)) rfl (Aa (pv 2) (Aa (pv 3) Af)))))))),?_⟩
 have m0:0<=lo:=m0;have m1:lo<=120000000230:=m1;refine (vE rfl ⟨t,_,rfl,SqT.of ht,rfl,vC rfl (vC rfl (vC rfl (vC rfl (⟨rfl,?_⟩))))⟩);refine (vE rfl ⟨rfl,vE rfl ?_⟩);by_cases c1:wd = "own"
 ·refine dT (congrArg V.str c1) (vE rfl (vE rfl (fun p dx np ndx nex=>⟨p,dx,y,lo,rfl,Ab,wy,⟨m0,by lia⟩,fun H2 kp D=>⟨rfl,q p H2 (Dw np ndx kp) np ?_⟩⟩)))
  unfold Ky;rw[if_pos (by exact c1)];exact D
 refine dF (fun e=>c1 (V.str.inj e)) (vE rfl ⟨rfl,vE rfl ?_⟩);by_cases c2:wd = "layer"
 ·obtain⟨q1,q2⟩:=lay c2
  have q1:lo<hi:=q1;have q2:hi<=240000000461:=q2;refine dT (congrArg V.str c2) (vE rfl (vE rfl (vE rfl (fun p dx np ndx nex=>⟨p,dx,y,lo,hi,rfl,Ab,wy,⟨m0,by lia⟩,⟨by lia,by lia⟩,q1,fun H2 kp D=>⟨rfl,q p H2 (Dw np ndx kp) np ?_⟩⟩))));unfold Ky;rw[if_neg (by exact c1),if_pos (by exact c2)];exact D
 ·refine dF (fun e=>c2 (V.str.inj e)) (vE rfl (vE rfl (fun p dx np ndx nex=>⟨p,dx,y,lo,rfl,Ab,wy,⟨m0,by lia⟩,fun H2 kp D=>⟨rfl,q p H2 (Dw np ndx kp) np ?_⟩⟩)))
  unfold Ky;rw[if_neg (by exact c1),if_neg (by exact c2)];exact D
end
structure Rwc where
 p:Addr
 nm:Str
 t:Gw
 rs:List JB
 wt:Bool
def Kz (r:Rwc):V:=.ref r.p
def RwcAt (H:Hp) (r:Rwc):Prop:=∃ tv cl hl ht xs,H r.p=some (.tup [.str r.nm,tv,.ref cl,.ref hl,.bl r.wt])/\TrAt H tv r.t/\H cl=some (.lst xs)/\TsAt GW H xs r.rs/\H hl=some (.lst [.ref ht])/\H ht=some (.tup [.str "h",.int 1])
structure Os (r:Rwc):Prop where
 hg:Ow r.t<3
 ok:Ng Pw r.t
 l3:r.rs.length<=3
 oc:∀ c∈r.rs,MV c
theorem RwcAt.same {H H':Hp} {r:Rwc} (h:RwcAt H r) (s:Same H H'):RwcAt H' r:=by
 obtain⟨tv,cl,hl,ht,xs,h1,h2,h3,h4,h5,h6⟩:=h;exact⟨tv,cl,hl,ht,xs,s _ _ h1,h2.same s,s _ _ h3,h4.mono (Bo s),s _ _ h5,s _ _ h6⟩
def N8 (K:zAa):Sp:=fun vs H Q _=>∃ a ns nl th ca,∃ u:Int,∃ B C D:List Str,vs=[.ref a,.ref nl,.ref th,.ref ca,.int u]/\SqL K H a (List.map V.int ns)/\ns.length<=63/\Iu u/\H nl=some (.lst (D.map V.str))/\H th=some (.lst (B.map V.str))/\H ca=some (.lst (C.map V.str))/\B.length=3/\C.length=3/\(∀ z∈B,O4 z)/\(∀ z∈C,O4 z)/\D.length<=5 /\
 ∀ r (rows:List Rwc) H',Same H H'->H r=none->H' r=some (.lst (rows.map Kz))->(∀ x∈rows,RwcAt (Nw H H') x/\Os x)->rows.map (·.nm)=D->Q (.ref r) H'
section
seal L2.PS L2.PSs L2.PE L2.PA
variable {P:Program} {w:World} {K:zAa} {mg:Str->Option Value} {base:Heap}
theorem Tb:Bd ["_law_script", "_law_names_here", "_law_things", "_law_causes", "_law_unit_here", "_law_covers_here", "_law_c", "_law_shape", "_law_clauses", "_law_k", "_law_cond_here"] ["_law_script", "_law_names_here", "_law_things", "_law_causes", "_law_unit_here"] (As Hq):=⟨rfl,rfl,rfl,by decide +kernel,rfl,by decide +kernel,by decide +kernel⟩
theorem Si {f:Addr} {fd:zCG} (F:Fun K "_law_covers" "_law_covers" Hq f fd) (T:Txt K mg) (C_law_cell:Cq P w K mg base 1 "_law_cell" ["_law_script", "_law_k"] (Nu K)) (C_law_spread:Cq P w K mg base 1 "_law_spread" ["_law_cell_here"] Jn)
  (C_law_drawn_clause:Cq P w K mg base 2 "_law_drawn_clause" ["_law_cell_here", "_law_unit_here"] JD) (C_law_cond:Cq P w K mg base 2 "_law_cond" ["_law_cell_here", "_law_things", "_law_causes", "_law_unit_here"] N2) :
  FnOk P w K mg base Da 3 f fd ["_law_script", "_law_names_here", "_law_things", "_law_causes", "_law_unit_here"] (N8 K):=by
 have sc:=Tb;refine F.ok sc (fun vs H Q E h=>?_) (fun cdv A outer s H vs Q E hr h=>?_)
 ·obtain⟨_,_,_,_,_,_,_,_,_,rfl,_⟩:=h
  rfl
 obtain⟨a,ns,nl,th,ca,u,B,C,D,rfl,ha,l63,uo,hnl,hth,hca,lB,lC,nB,nC,d5,q⟩:=h;refine⟨_,(Ae (Bf (i:=5) sc.nd rfl (Or.inl rfl) (Ci Af))
   (Ae (Ck PassesOwn.never rfl (Cz rfl T.n_range (Aa (Bn Cc rfl T.n_len (show zCF _=some (.builtin "len") from rfl) (Aa (pv 1) Af)) Af)) (Ay (i:=6) sc.nd rfl (Or.inl rfl))
    (Ae (Bf (i:=7) sc.nd rfl (Or.inl rfl) (Ax C_law_spread (hr.mono (by decide)) rfl (Aa (Ax C_law_cell (hr.mono (by decide)) rfl (Aa (pv 0) (Aa (Bc Cm Al (Bc Dy Al (pv 6))) Af))) Af)))
   (Ae (Bf (i:=8) sc.nd rfl (Or.inl rfl) (Ci Af))
   (Ae (Ck PassesOwn.never rfl (Cz rfl T.n_range (Aa (Bc Bx (Bc By (pv 7) Al) Al) Af)) (Ay (i:=9) sc.nd rfl (Or.inl rfl))
    (Ao (Cr (Gk PySem.F.plainAttrs_list PySem.F.slot_list_append PySem.F.type_list_append Do (pv 8) (Aa (Ax C_law_drawn_clause (hr.mono (by decide)) rfl (Aa (Ax C_law_spread (hr.mono (by decide)) rfl (Aa (Ax C_law_cell (hr.mono (by decide)) rfl (Aa (pv 0) (Aa (Bc Cm (Bc Cm Al (Bc Dy Al (pv 6))) (pv 9)) Af))) Af)) (Aa (pv 4) Af))) Af)))))
   (Ae (Bf (i:=10) sc.nd rfl (Or.inl rfl) (Ax C_law_cond (hr.mono (by decide)) rfl (Aa (Bc By (pv 7) Al) (Aa (pv 2) (Aa (pv 3) (Aa (pv 4) Af))))))
   (Ao (Cr (Gk PySem.F.plainAttrs_list PySem.F.slot_list_append PySem.F.type_list_append Do (pv 5) (Aa (Cd (Aa (Bh Bp (pv 1) (pv 6) (fun _ _=>rfl)) (Aa (pv 10) (Aa (pv 8) (Aa (Ci (Aa (Cd (Aa Bz (Aa Al Af))) Af)) (Aa (Ga Di (Bc Bx (pv 7) Al) Al (Bm _)) Af)))))) Af)))))))))
   (Ao (Be (pv 5))))),?_⟩
 have one:1<=sizeLine:=by rw[zCE]; decide
 have two:2<=sizeLine:=by rw[zCE]; decide
 have lm:(D.map V.str).length=D.length:=zAb _;refine⟨zAD _,fun cl ncl=>?_⟩;refine Dr [some (.ref a),some (.ref nl),some (.ref th),some (.ref ca),some (.int u),some (.ref cl),none,none,none,none,none] rfl ?_;have s1:=An ncl (.lst []);have h1:upd H cl (.lst []) cl=some (.lst []):=Ab;generalize upd H cl (.lst [])=H1 at s1 h1;refine (vE rfl ⟨nl,_,rfl,.inl (SqL.of (s1 _ _ hnl)),vE rfl ⟨by rw[lm]; lia,by rw[lm]; lia,?_⟩⟩);rw[show (((D.map V.str).length:Int)).toNat=D.length by rw[lm]; lia];refine En (lo:=0) (n:=D.length) (fun i σ H2=>(∃ o6 o7 o8 o9 o10,σ=[some (.ref a),some (.ref nl),some (.ref th),some (.ref ca),some (.int u),some (.ref cl),o6,o7,o8,o9,o10])/\(∃ rows:List Rwc,H2 cl=some (.lst (rows.map Kz))/\(∀ x∈rows,RwcAt (Off cl (Nw H H2)) x/\Os x)/\rows.map (·.nm)=D.take i)/\Same H H2)
  ⟨⟨none,none,none,none,none,rfl⟩,⟨[],h1,(fun x hx=>nomatch hx),by rw[zBG]; rfl⟩,s1⟩ ?_ ?_
 ·rintro i σ H2 hi ⟨⟨o6,o7,o8,o9,o10,rfl⟩,⟨rows,hrows,okr,enm⟩,s2⟩
  refine Dr [some (.ref a),some (.ref nl),some (.ref th),some (.ref ca),some (.int u),some (.ref cl),some (.int (0+(i:Int))),o7,o8,o9,o10] rfl ?_;refine (vE rfl (vE rfl (vF rfl rfl ⟨.inl ⟨by decide,by decide⟩,vF rfl rfl ⟨a,ns,_,rfl,s2.seq ha,by lia,l63,vE rfl (fun r r0 r1=>?_)⟩⟩)));refine Dr [some (.ref a),some (.ref nl),some (.ref th),some (.ref ca),some (.int u),some (.ref cl),some (.int (0+(i:Int))),some (.int r),o8,o9,o10] rfl ?_;refine⟨zAD _,fun kl nkl=>?_⟩;refine Dr [some (.ref a),some (.ref nl),some (.ref th),some (.ref ca),some (.int u),some (.ref cl),some (.int (0+(i:Int))),some (.int r),some (.ref kl),o9,o10] rfl ?_;obtain⟨m,em,m3⟩:∃ m:Nat,r/4%4=(m:Int)/\m<=3:=⟨(r/4%4).toNat,by lia,by lia⟩;refine (vE rfl (vF rfl rfl ⟨⟨by decide,by decide⟩,_,_,rfl,rfl,(by show (0:Int)<4; decide),_,rfl,by lia,by lia,?_⟩));rw[show (r/4%4).toNat=m by lia];refine En (lo:=0) (n:=m) (fun j σ H4=>(∃ o9,σ=[some (.ref a),some (.ref nl),some (.ref th),some (.ref ca),some (.int u),some (.ref cl),some (.int (0+(i:Int))),some (.int r),some (.ref kl),o9,o10])/\(∃ xs,∃ rs:List JB,H4 kl=some (.lst xs)/\TsAt GW (Nw H H4) xs rs/\rs.length=j/\∀ c∈rs,MV c)/\Same H2 H4)
   ⟨⟨o9,rfl⟩,⟨[],[],Ab,trivial,rfl,fun c hc=>nomatch hc⟩,An nkl _⟩ ?_ ?_
  ·rintro j σ H4 hj ⟨⟨o9,rfl⟩,⟨xs,rs,hkl,ts,lr,okc⟩,s4⟩
   refine Dr [some (.ref a),some (.ref nl),some (.ref th),some (.ref ca),some (.int u),some (.ref cl),some (.int (0+(i:Int))),some (.int r),some (.ref kl),some (.int (0+(j:Int))),o10] rfl ?_;refine (vE rfl ⟨.inl ⟨rfl,_,SqL.of hkl⟩,vE rfl (vE rfl (vF rfl rfl ⟨.inl ⟨by decide,by decide⟩,vF rfl rfl (vE rfl (vF rfl rfl ⟨a,ns,_,rfl,(s2.trans s4).seq ha,by lia,l63,vE rfl (fun r' r0' r1'=>(vE rfl ⟨r',u,rfl,r0',uo,fun t c H5 s5 nt ht okc'=>⟨kl,_,_,rfl,rfl,s5 _ _ hkl,?_,?_⟩⟩))⟩))⟩))⟩)
   ·rw[ts.len,zCE]; lia
   ·refine⟨⟨_,rfl⟩,⟨xs++[.ref t],rs++[c],Ab,((ts.mono (Bo (Nw.grow fun b o _ e=>s5 b o e))).snoc (Nw.of ((s2.trans s4).free nt) ht)).mono fun t ws y=>Nw.of (Nw.at y).1 (Dj (s5 _ _ hkl) _ t ws (Nw.at y).2),by rw[zAo,lr]; rfl,fun y hy=>?_⟩,fun b o y=>?_⟩
    ·rcases zAy.mp hy with g | g
     ·exact okc y g
     ·rw[zAk.mp g]; exact okc'
    ·rw[Ar (Ap y nkl)]
     exact s5 _ _ (s4 b o y)
  ·rintro σ H4 ⟨⟨o9,rfl⟩,⟨xs,rs,hkl,ts,lr,okc⟩,s4⟩
   have S4:=s2.trans s4;refine (vE rfl (vF rfl rfl ⟨⟨by decide,by decide⟩,_,rfl,vE rfl (vE rfl ⟨_,u,th,ca,B,C,rfl,by lia,uo,S4 _ _ hth,S4 _ _ hca,lB,lC,nB,nC,fun v t H5 s5 tr hg okt=>?_⟩)⟩));refine Dr [some (.ref a),some (.ref nl),some (.ref th),some (.ref ca),some (.int u),some (.ref cl),some (.int (0+(i:Int))),some (.int r),some (.ref kl),o9,some v] rfl ?_;have S5:=S4.trans s5;have hrows5:=s5 _ _ (s4 _ _ hrows);have en:D[i]?=some D[i]:=zAe hi;generalize D[i]=z at en;have ez:Nf (D.map V.str) (0+(i:Int))=some (.str z):=by
    rw[show (0+(i:Int))=(i:Int) by lia];refine Ey ?_;rw[zAs,en];rfl
   refine (vE rfl ⟨.inl ⟨rfl,_,SqL.of hrows5⟩,vE rfl (vE rfl (vI rfl rfl (SqL.of (S5 _ _ hnl)) ez (vE rfl (vE rfl ⟨two,fun ht nht=>?_⟩))))⟩);have s6:=An nht (.tup [V.str "h",.int 1]);have h6:upd H5 ht (.tup [V.str "h",.int 1]) ht=some (.tup [V.str "h",.int 1]):=Ab;generalize upd H5 ht (.tup [V.str "h",.int 1])=H6 at s6 h6;refine⟨one,fun hl nhl=>?_⟩;have s7:=An nhl (.lst [V.ref ht]);have h7:upd H6 hl (.lst [V.ref ht]) hl=some (.lst [V.ref ht]):=Ab;generalize upd H6 hl (.lst [V.ref ht])=H7 at s7 h7;refine (vE rfl (vF rfl rfl ⟨(by show (0:Int)<4; decide),rfl,Cf (by show 5<=1000; decide),fun tp ntp=>?_⟩));generalize decide (V.int (r%4)=V.int 1)=wb;have s8:=An ntp (.tup [V.str z,v,.ref kl,.ref hl,.bl wb]);have h8:upd H7 tp (.tup [V.str z,v,.ref kl,.ref hl,.bl wb]) tp=some (.tup [V.str z,v,.ref kl,.ref hl,.bl wb]):=Ab;generalize upd H7 tp (.tup [V.str z,v,.ref kl,.ref hl,.bl wb])=H8 at s8 h8;have S8:=s6.trans (s7.trans s8);have hrows8:=S8 _ _ hrows5;have lrows:rows.length=i:=by
    have:=congrArg List.length enm;rw[zAb,zAx] at this
    lia
   refine⟨cl,_,_,rfl,rfl,hrows8,by rw[zAb,zCE]; lia,?_⟩;have eapp:rows.map Kz++[V.ref tp]=(rows++[Rwc.mk tp z t rs wb]).map Kz:=by rw[zAq]; rfl
   rw[eapp];have nclk:kl≠cl:=(Ap hrows nkl).symm;have nhtc:ht≠cl:=(Ap hrows5 nht).symm;have nhlc:hl≠cl:=(Ap (s6 _ _ hrows5) nhl).symm;have ntpc:tp≠cl:=(Ap (s7 _ _ (s6 _ _ hrows5)) ntp).symm;have up:∀ {b:Addr} {o:HO},b≠cl->H b=none->H8 b=some o->Off cl (Nw H (upd H8 cl (.lst ((rows++[Rwc.mk tp z t rs wb]).map Kz)))) b=some o:=fun n e y=>Off.of n (Nw.of e (by rw[Ar n]; exact y));have S28:=s4.trans (s5.trans S8);refine⟨⟨_,_,_,_,_,rfl⟩,⟨_,Ab,fun x hx=>?_,?_⟩,fun b o y=>?_⟩
   ·rcases zAy.mp hx with g | g
    ·obtain⟨y1,y2⟩:=okr x g
     exact⟨y1.same fun b o y=>up (Off.at y).1 (Nw.at (Off.at y).2).1 (S28 _ _ (Nw.at (Off.at y).2).2),y2⟩
    ·rw[zAk.mp g]
     refine⟨⟨v,kl,hl,ht,xs,up ntpc ((S5.trans (s6.trans s7)).free ntp) h8,TrAt.same (fun b o y=>?_) _ tr,up nclk (s2.free nkl) (S8 _ _ (s5 _ _ hkl)),ts.mono fun b o y=>?_,up nhlc ((S5.trans s6).free nhl) (s8 _ _ h7),up nhtc (S5.free nht) (s8 _ _ (s7 _ _ h6))⟩,⟨hg,okt,by show rs.length<=3; lia,okc⟩⟩
     ·obtain⟨y1,y2⟩:=Nw.at y
      exact up (fun e=>by rw[e,s4 _ _ hrows] at y1; cases y1) (S4.free y1) (S8 _ _ y2)
     ·have y':=S8 _ _ (s5 _ _ (Nw.at y).2)
      exact up (Iz y' hrows8 (by intro e; cases e)) (Nw.at y).1 y'
   ·rw[zAq,enm,Bu en]
    rfl
   ·rw[Ar (Ap y ncl)]
    exact S8 _ _ (S5 b o y)
 ·rintro σ H2 ⟨⟨o6,o7,o8,o9,o10,rfl⟩,⟨rows,hrows,okr,enm⟩,s2⟩
  rw[zAA] at enm;exact (vE rfl (q cl rows H2 s2 ncl hrows (fun x hx=>⟨(okr x hx).1.same fun b o y=>(Off.at y).2,(okr x hx).2⟩) enm))
def LastAt (H:Hp) (v:V):Option (Str×Int)->Prop
 | none=>v = .non
 | some (nm,k)=>∃ t,v = .ref t/\H t=some (.tup [.str nm,.int k])
theorem LastAt.same {H H':Hp} {v:V} (s:Same H H'):∀ {lk:Option (Str×Int)},LastAt H v lk->LastAt H' v lk
 | none,h=>h
 | some (_,_),⟨t,e,h⟩=>⟨t,e,s _ _ h⟩
def M4:Sp:=fun vs H Q _=>∃ a ys S,∃ c:Int,vs=[.ref a,.int c]/\H a=some (.lst ys)/\Sts H ys S/\CRT.FormS 0 none S c/\∀ H',Same H H'->Q (.bl true) H'
theorem GP {nm nm':Str} {k k':Int} (n:¬ (nm=nm'/\k=k')):eqDs [.at (.str nm),.at (.int k)] [.at (.str nm'),.at (.int k')]=false:=by
 unfold eqDs eqDs eqDs AQ;by_cases c1:nm=nm'
 ·by_cases c2:k=k'
  ·exact absurd ⟨c1,c2⟩ n
  ·simp [Pq,c2]
 ·simp [Pq,c1]
theorem V4 {K:zAa} {H:Hp} {t:Addr} {nm:Str} {k:Int} (h:H t=some (.tup [.str nm,.int k])):Qa K H (.seq true [.at (.str nm),.at (.int k)]) (.ref t):=by
 unfold Qa;refine⟨t,_,rfl,fun _=>SqT.of h,(fun e=>by cases e),?_⟩;unfold Reps;refine⟨_,_,rfl,?_,?_⟩
 ·unfold Qa; exact⟨rfl,rfl⟩
 unfold Reps;refine⟨_,_,rfl,?_,?_⟩
 ·unfold Qa; exact⟨rfl,rfl⟩
 unfold Reps;rfl
theorem Wy:Bd ["_law_strips", "_law_cents", "_law_at", "_law_last", "_law_strip", "_law_lo", "_law_hi", "_law_name", "_law_k"] ["_law_strips", "_law_cents"] (As Ju):=⟨rfl,rfl,rfl,by decide +kernel,rfl,by decide +kernel,by decide +kernel⟩
theorem Xg {f:Addr} {fd:zCG} (F:Fun K "_law_form" "_law_form" Ju f fd) (T:Txt K mg) (C_law_whole:Cq P w K mg base 1 "_law_whole" ["_law_found"] (Iw K)):FnOk P w K mg base Da 2 f fd ["_law_strips", "_law_cents"] M4:=by
 have sc:=Wy;refine F.ok sc (fun vs H Q E h=>?_) (fun cdv A outer s H vs Q E hr h=>?_)
 ·obtain⟨_,_,_,_,rfl,_⟩:=h
  rfl
 obtain⟨a,ys,S,c,rfl,ha,sts,fo,q⟩:=h;have hu64:=P8 hr;refine⟨_,(Ae (Bw (Dc (Cn (Bn Cy rfl T.n_isinstance (show zCF _=some (.builtin "isinstance") from rfl) (Aa (pv 0) (Aa (Kx "list" rfl T.n_list rfl) Af)))))
    (Ao (Be Eg))
    Bl)
   (Ae (Bf (i:=2) sc.nd rfl (Or.inl rfl) Al)
   (Ae (Bf (i:=3) sc.nd rfl (Or.inl rfl) Gj)
   (Ae (Ck PassesOwn.never rfl (Bt (pv 0)) (Ay (i:=4) sc.nd rfl (Or.inl rfl))
    (Ae (Bw (PW.pt (Gv (Dc (Cn (Bn Cy rfl T.n_isinstance (show zCF _=some (.builtin "isinstance") from rfl) (Aa (pv 4) (Aa (Kx "tuple" rfl T.n_tuple rfl) Af))))) (Ft (Bj HR (Bn Cc rfl T.n_len (show zCF _=some (.builtin "len") from rfl) (Aa (pv 4) Af)) Al (Bm _)))))
    (Ao (Be Eg))
    Bl)
   (Ae (Xz (pv 4) (Ea (n:=4) rfl (Bk (Ay (i:=5) sc.nd rfl (Or.inl rfl)) (Bk (Ay (i:=6) sc.nd rfl (Or.inl rfl)) (Bk (Ay (i:=7) sc.nd rfl (Or.inl rfl)) (Bk (Ay (i:=8) sc.nd rfl (Or.inl rfl)) Dh))))))
   (Ae (Bw (PW.pt (Gv (Dc (Cn (Ax C_law_whole (hr.mono (by decide)) rfl (Aa (pv 5) Af)))) (Gv (Dc (Cn (Ax C_law_whole (hr.mono (by decide)) rfl (Aa (pv 6) Af)))) (Gv (Dc (Cn (Bn Cy rfl T.n_isinstance (show zCF _=some (.builtin "isinstance") from rfl) (Aa (pv 7) (Aa (Kx "str" rfl T.n_str rfl) Af))))) (Ft (Dc (Cn (Ax C_law_whole (hr.mono (by decide)) rfl (Aa (pv 8) Af)))))))))
    (Ao (Be Eg))
    Bl)
   (Ae (Bw (PW.pt (Gv (Bj HR (pv 5) (pv 2) (Bm _)) (Gv (Bj Oz (pv 6) (pv 5) (Bm _)) (Ft (Bj (HF (K:=K) hu64) (Cd (Aa (pv 7) (Aa (pv 8) Af))) (pv 3) (Bm _))))))
    (Ao (Be Eg))
    Bl)
   (Ae (Bf (i:=2) sc.nd rfl (Or.inl rfl) (pv 6))
   (Ao (Bf (i:=3) sc.nd rfl (Or.inl rfl) (Cd (Aa (pv 7) (Aa (pv 8) Af)))))))))))
   (Ao (Be (Ga Di (pv 2) (pv 1) (Bm _)))))))),?_⟩
 have ly:=sts.len;have two:2<=sizeLine:=by rw[zCE]; decide
 refine (vE rfl ⟨_,_,_,_,_,rfl,Kw,.lst ha,AS,_,rfl,Dq ?_⟩);refine (vE rfl ⟨a,rfl,⟨_,SqL.of ha⟩,?_⟩);refine Db (K:=K) (a:=a) (xs:=ys) (fun i σ H2=>∃ at' lk lv o4 o5 o6 o7 o8,σ=[some (.ref a),some (.int c),some (.int at'),some lv,o4,o5,o6,o7,o8]/\CRT.FormS at' lk (S.drop i) c/\LastAt H2 lv lk/\Same H H2)
  ⟨0,none,.non,none,none,none,none,none,rfl,fo,rfl,Same.refl _⟩ (fun i σ H2 _ ⟨_,_,_,_,_,_,_,_,_,_,_,s2⟩=>SqL.of (s2 _ _ ha)) ?_ ?_
 ·rintro i x σ H2 hi ⟨at',lk,lv,o4,o5,o6,o7,o8,rfl,fo2,la,s2⟩
  obtain⟨t,p,hp,rfl,ht⟩:=sts.get hi;rw[Ye hp] at fo2;obtain⟨f1,f2,f3,f4⟩:=fo2;have ht2:=s2 _ _ ht;refine Dr [some (.ref a),some (.int c),some (.int at'),some lv,some (.ref t),o5,o6,o7,o8] rfl ?_;refine (vE rfl ⟨_,_,_,_,_,rfl,Kw,.tup ht2,IY,_,rfl,Dq (vE rfl ⟨t,_,rfl,.inr (SqT.of ht2),rfl,vE rfl (nF rfl ?_)⟩)⟩);refine (vE rfl ⟨t,_,rfl,SqT.of ht2,rfl,vC rfl (vC rfl (vC rfl (vC rfl (⟨rfl,?_⟩))))⟩);refine GI [some (.ref a),some (.int c),some (.int at'),some lv,some (.ref t),some (.int p.1),some (.int p.2.1),some (.str p.2.2.1),some (.int p.2.2.2)] rfl ?_;refine (vE rfl ⟨_,_,rfl,.int _,_,rfl,Dq (vE rfl ⟨_,_,rfl,.int _,_,rfl,Dq (vE rfl ⟨_,_,_,_,_,rfl,Kw,.str _,BL,_,rfl,Dq (vE rfl ⟨_,_,rfl,.int _,_,rfl,Dq ?_⟩)⟩)⟩)⟩);refine (vE rfl (vE rfl ⟨rfl,vE rfl (nF (congrArg V.int f1) (vE rfl (vE rfl (vF rfl rfl (vE rfl (dF (by lia) (vE rfl (vE rfl ⟨two,fun tt ntt=>(vE rfl ?_)⟩))))))))⟩));have s3:=An ntt (.tup [V.str p.2.2.1,.int p.2.2.2]);have h3:upd H2 tt (.tup [V.str p.2.2.1,.int p.2.2.2]) tt=some (.tup [V.str p.2.2.1,.int p.2.2.2]):=Ab;generalize upd H2 tt (.tup [V.str p.2.2.1,.int p.2.2.2])=H3 at s3 h3;have la3:=la.same s3;have go:∀ b,b=false->∀ {A B:Prop},B->(if b=true then A else B):=fun b e A B y=>by rw[e]; exact y
  match lk,la3,f3 with
  | none,e,_=>
   refine .inl ⟨e,⟨tt,_,rfl,SqT.of h3⟩,_,rfl,Dq ?_⟩;refine (vE rfl ?_);refine (vE rfl (vE rfl ⟨two,fun t2 nt2=>?_⟩));exact⟨p.2.1,some p.2.2,.ref t2,_,_,_,_,_,rfl,f4,⟨t2,rfl,Ab⟩,s2.trans (s3.trans (An nt2 _))⟩
  | some (nm',k'),⟨tl,e,hl⟩,n=>
   subst e;refine .inr ⟨true,_,_,V4 h3,V4 hl,(by simp [deps,EZ]),_,rfl,bF (GP fun y=>n ?_) ?_⟩
   ·rw[<- y.1,<- y.2]
   refine (vE rfl ?_);refine (vE rfl (vE rfl ⟨two,fun t2 nt2=>?_⟩));exact⟨p.2.1,some p.2.2,.ref t2,_,_,_,_,_,rfl,f4,⟨t2,rfl,Ab⟩,s2.trans (s3.trans (An nt2 _))⟩
 ·rintro σ H2 ⟨at',lk,lv,o4,o5,o6,o7,o8,rfl,fo2,la,s2⟩
  rw[ly,zBz] at fo2;have e:at'=c:=fo2;have q':=q H2 s2;rw[<- decide_eq_true (congrArg V.int e)] at q';exact (vE rfl (vE rfl ⟨rfl,q'⟩))
end
def Q4 (κ:A8) (m:Nat):Sp:=fun vs H Q _=>∃ v t,vs=[v]/\TrAt H v t/\Ow t<m/\Ng Pw t/\∀ u H',Same H H'->CdAt κ (Nw H H') u t->Q u H'
section
seal L2.PS L2.PSs L2.PE L2.PA
variable {P:Program} {w:World} {K:zAa} {mg:Str->Option Value} {base:Heap} {Ac Ag Ah Am Au Bb Ba At Ad Aw Ak Aj Bg Ai Az Aq:Addr}
theorem Mf:Bd ["_law_cond_here"] ["_law_cond_here"] (As Fc):=⟨rfl,rfl,rfl,by decide +kernel,rfl,by decide +kernel,by decide +kernel⟩
theorem Ml {f:Addr} {fd:zCG} (F:Fun K "_law_condition" "_law_condition" Fc f fd) (L:Kl K mg Ac Ag Ah Am Au Bb Ba At Ad Aw Ak Aj Bg Ai Az Aq) {m:Nat} (C_law_condition:Cq P w K mg base (m+2) "_law_condition" ["_law_cond_here"] (Q4 (A8.mk Ac Ag Ah Am Au Bb Ba At) m))
  (NCondition:NF K mg "Condition" Ac) (KCauseIs:Ej P w K mg base 1 "CauseIs" Ag ["self", "name"] (Iy Ag "name")) (KThingIs:Ej P w K mg base 1 "ThingIs" Ah ["self", "name"] (Iy Ah "name")) (KDaysIn:Ej P w K mg base 1 "DaysIn" Am ["self", "first", "last"] (CJ Am)) (KOver:Ej P w K mg base 1 "Over" Au ["self", "cents"] (Iy Au "cents"))
  (KNot:Ej P w K mg base 1 "Not" Bb ["self", "part"] (Iy Bb "part")) (KAll:Ej P w K mg base 1 "All" Ba ["self", "several"] (Vo Ba)) (KSome:Ej P w K mg base 1 "Some" At ["self", "several"] (Vo At)) :
  FnOk P w K mg base Da (m+1+2) f fd ["_law_cond_here"] (Q4 (A8.mk Ac Ag Ah Am Au Bb Ba At) (m+1)):=by
 have sc:=Mf;refine F.ok sc (fun vs H Q E h=>?_) (fun cdv A outer s H vs Q E hr h=>?_)
 ·obtain⟨_,_,rfl,_⟩:=h
  rfl
 obtain⟨v,t,rfl,tr,hg,ok,q⟩:=h;refine⟨_,(Ae (Bw (Bj Di (Bh Bq (pv 0) Al (fun _ _=>rfl)) Bz (Bm _))
    (Ao (Be (Dd KCauseIs (hr.mono (by lia)) rfl (Aa (Bh Bq (pv 0) Al (fun _ _=>rfl)) Af))))
    Bl)
   (Ae (Bw (Bj Di (Bh Bq (pv 0) Al (fun _ _=>rfl)) Bz (Bm _))
    (Ao (Be (Dd KThingIs (hr.mono (by lia)) rfl (Aa (Bh Bq (pv 0) Al (fun _ _=>rfl)) Af))))
    Bl)
   (Ae (Bw (Bj Di (Bh Bq (pv 0) Al (fun _ _=>rfl)) Bz (Bm _))
    (Ao (Be (Dd KDaysIn (hr.mono (by lia)) rfl (Aa (Bh Bq (pv 0) Al (fun _ _=>rfl)) (Aa (Bh Bq (pv 0) Al (fun _ _=>rfl)) Af)))))
    Bl)
   (Ae (Bw (Bj Di (Bh Bq (pv 0) Al (fun _ _=>rfl)) Bz (Bm _))
    (Ao (Be (Dd KOver (hr.mono (by lia)) rfl (Aa (Bh Bq (pv 0) Al (fun _ _=>rfl)) Af))))
    Bl)
   (Ae (Bw (Bj Di (Bh Bq (pv 0) Al (fun _ _=>rfl)) Bz (Bm _))
    (Ao (Be (Dd KNot (hr.mono (by lia)) rfl (Aa (Ax C_law_condition (hr.mono (by lia)) rfl (Aa (Bh Bq (pv 0) Al (fun _ _=>rfl)) Af)) Af))))
    Bl)
   (Ae (Bw (Bj Di (Bh Bq (pv 0) Al (fun _ _=>rfl)) Bz (Bm _))
    (Ao (Be (Dd KAll (hr.mono (by lia)) rfl (Aa (De (NC:=["_law_part"]) (own:=["_law_part"]) (cs:=[]) (ix:=[]) rfl (CompScope.of rfl) rfl trivial (Bt (Bh Bq (pv 0) Al (fun _ _=>rfl))) (fun _ _ _=>(Ay (i:=0) (show (["_law_part"]:List Str).Nodup from by decide +kernel) rfl (Or.inl rfl))) (fun _ _ _=>Cu) (fun _ _ _=>(Ax C_law_condition (hr.mono (by lia)) rfl (Aa (pv 0) Af)))) Af))))
    Bl)
   (Ae (Bw (Bj Di (Bh Bq (pv 0) Al (fun _ _=>rfl)) Bz (Bm _))
    (Ao (Be (Dd KSome (hr.mono (by lia)) rfl (Aa (De (NC:=["_law_part"]) (own:=["_law_part"]) (cs:=[]) (ix:=[]) rfl (CompScope.of rfl) rfl trivial (Bt (Bh Bq (pv 0) Al (fun _ _=>rfl))) (fun _ _ _=>(Ay (i:=0) (show (["_law_part"]:List Str).Nodup from by decide +kernel) rfl (Or.inl rfl))) (fun _ _ _=>Cu) (fun _ _ _=>(Ax C_law_condition (hr.mono (by lia)) rfl (Aa (pv 0) Af)))) Af))))
    Bl)
   (Ao (Be (FS NCondition rfl)))))))))),?_⟩
 have sne:∀ {y z:Str},y≠z->¬ V.str y=V.str z:=fun h e=>h (V.str.inj e);cases t with
 | «at» c=>
  cases c with
  | alw=>
   unfold TrAt at tr;obtain⟨p,rfl,hp⟩:=tr;refine (vE rfl (vI rfl rfl (SqT.of hp) rfl ⟨rfl,vE rfl (dF (sne (by decide +kernel)) ?_)⟩));refine (vE rfl (vI rfl rfl (SqT.of hp) rfl ⟨rfl,vE rfl (dF (sne (by decide +kernel)) ?_)⟩));refine (vE rfl (vI rfl rfl (SqT.of hp) rfl ⟨rfl,vE rfl (dF (sne (by decide +kernel)) ?_)⟩));refine (vE rfl (vI rfl rfl (SqT.of hp) rfl ⟨rfl,vE rfl (dF (sne (by decide +kernel)) ?_)⟩));refine (vE rfl (vI rfl rfl (SqT.of hp) rfl ⟨rfl,vE rfl (dF (sne (by decide +kernel)) ?_)⟩));refine (vE rfl (vI rfl rfl (SqT.of hp) rfl ⟨rfl,vE rfl (dF (sne (by decide +kernel)) ?_)⟩));refine (vE rfl (vI rfl rfl (SqT.of hp) rfl ⟨rfl,vE rfl (dF (sne (by decide +kernel)) ?_)⟩));refine fun y dx ny nd ne=>q _ _ (Ri ny nd) ?_;unfold CdAt;exact⟨y,dx,rfl,Nw.of ny Ab⟩
  | cau n=>
   unfold TrAt at tr;obtain⟨p,rfl,hp⟩:=tr;refine (vE rfl (vI rfl rfl (SqT.of hp) rfl ⟨rfl,vE rfl (dT rfl (vE rfl (vI rfl rfl (SqT.of hp) rfl (fun y dx ny nd ne=>⟨y,dx,_,rfl,Ab,rfl,q _ _ (Gr ny nd) ?_⟩))))⟩));unfold CdAt;exact⟨y,dx,rfl,Nw.of ny Ab⟩
  | thi n=>
   unfold TrAt at tr;obtain⟨p,rfl,hp⟩:=tr;refine (vE rfl (vI rfl rfl (SqT.of hp) rfl ⟨rfl,vE rfl (dF (sne (by decide +kernel)) ?_)⟩));refine (vE rfl (vI rfl rfl (SqT.of hp) rfl ⟨rfl,vE rfl (dT rfl (vE rfl (vI rfl rfl (SqT.of hp) rfl (fun y dx ny nd ne=>⟨y,dx,_,rfl,Ab,rfl,q _ _ (Gr ny nd) ?_⟩))))⟩));unfold CdAt;exact⟨y,dx,rfl,Nw.of ny Ab⟩
  | day a b=>
   unfold TrAt at tr;obtain⟨p,rfl,hp⟩:=tr;refine (vE rfl (vI rfl rfl (SqT.of hp) rfl ⟨rfl,vE rfl (dF (sne (by decide +kernel)) ?_)⟩));refine (vE rfl (vI rfl rfl (SqT.of hp) rfl ⟨rfl,vE rfl (dF (sne (by decide +kernel)) ?_)⟩));refine (vE rfl (vI rfl rfl (SqT.of hp) rfl ⟨rfl,vE rfl (dT rfl (vE rfl (vI rfl rfl (SqT.of hp) rfl (vE rfl (vI rfl rfl (SqT.of hp) rfl (fun y dx ny nd ne=>⟨y,dx,_,_,rfl,Ab,fun H' kp hy=>⟨rfl,q _ _ (fun z o e=>?_) ?_⟩⟩))))))⟩))
   ·have n1:=Ap e ny
    rw[kp z n1,Ar n1,Ar (Ap e nd)]; exact e
   ·unfold CdAt
    exact⟨y,dx,rfl,Nw.of ny hy⟩
  | ovr c=>
   unfold TrAt at tr;obtain⟨p,rfl,hp⟩:=tr;refine (vE rfl (vI rfl rfl (SqT.of hp) rfl ⟨rfl,vE rfl (dF (sne (by decide +kernel)) ?_)⟩));refine (vE rfl (vI rfl rfl (SqT.of hp) rfl ⟨rfl,vE rfl (dF (sne (by decide +kernel)) ?_)⟩));refine (vE rfl (vI rfl rfl (SqT.of hp) rfl ⟨rfl,vE rfl (dF (sne (by decide +kernel)) ?_)⟩));refine (vE rfl (vI rfl rfl (SqT.of hp) rfl ⟨rfl,vE rfl (dT rfl (vE rfl (vI rfl rfl (SqT.of hp) rfl (fun y dx ny nd ne=>⟨y,dx,_,rfl,Ab,rfl,q _ _ (Gr ny nd) ?_⟩))))⟩));unfold CdAt;exact⟨y,dx,rfl,Nw.of ny Ab⟩
 | no t=>
  unfold TrAt at tr;obtain⟨p,wt,rfl,hp,tr⟩:=tr;unfold Ow at hg;unfold Ng at ok;refine (vE rfl (vI rfl rfl (SqT.of hp) rfl ⟨rfl,vE rfl (dF (sne (by decide +kernel)) ?_)⟩));refine (vE rfl (vI rfl rfl (SqT.of hp) rfl ⟨rfl,vE rfl (dF (sne (by decide +kernel)) ?_)⟩));refine (vE rfl (vI rfl rfl (SqT.of hp) rfl ⟨rfl,vE rfl (dF (sne (by decide +kernel)) ?_)⟩));refine (vE rfl (vI rfl rfl (SqT.of hp) rfl ⟨rfl,vE rfl (dF (sne (by decide +kernel)) ?_)⟩));refine (vE rfl (vI rfl rfl (SqT.of hp) rfl ⟨rfl,vE rfl (dT rfl (vE rfl (vI rfl rfl (SqT.of hp) rfl ⟨wt,t,rfl,tr,by lia,ok,fun u H1 s1 cd y dx ny nd ne=>⟨y,dx,_,rfl,Ab,rfl,q _ _ (s1.trans (Gr ny nd)) ?_⟩⟩)))⟩));unfold CdAt;exact⟨y,dx,u,rfl,Nw.of (s1.free ny) Ab,cd.same (Nw.grow fun b o _ e=>Gr ny nd _ _ e)⟩
 | al ts=>
  unfold TrAt at tr;obtain⟨p,a,vs,rfl,hp,ha,trs⟩:=tr;unfold Ow at hg;have hlen:=trs.len;unfold Ng at ok;obtain⟨_,ts8,oks⟩:=ok;refine (vE rfl (vI rfl rfl (SqT.of hp) rfl ⟨rfl,vE rfl (dF (sne (by decide +kernel)) ?_)⟩));refine (vE rfl (vI rfl rfl (SqT.of hp) rfl ⟨rfl,vE rfl (dF (sne (by decide +kernel)) ?_)⟩));refine (vE rfl (vI rfl rfl (SqT.of hp) rfl ⟨rfl,vE rfl (dF (sne (by decide +kernel)) ?_)⟩));refine (vE rfl (vI rfl rfl (SqT.of hp) rfl ⟨rfl,vE rfl (dF (sne (by decide +kernel)) ?_)⟩));refine (vE rfl (vI rfl rfl (SqT.of hp) rfl ⟨rfl,vE rfl (dF (sne (by decide +kernel)) ?_)⟩));refine (vE rfl (vI rfl rfl (SqT.of hp) rfl ⟨rfl,vE rfl (dT rfl (vE rfl (vI rfl rfl (SqT.of hp) rfl ⟨a,rfl,⟨_,SqL.of ha⟩,fun pc hpc=>?_⟩)))⟩));refine Cb (K:=K) (a:=a) (xs:=vs) (fun i ys H3=>H3 pc=some (.lst ys)/\ys.length=i/\Same H H3/\CdsAt (A8.mk Ac Ag Ah Am Au Bb Ba At) (Off pc (Nw H H3)) ys (ts.take i)) ⟨Ab,rfl,An hpc _,by rw[zBG]; unfold CdsAt; trivial⟩ (fun i ys H3 _ ⟨h1,h2,h3,_⟩=>⟨h1,by lia,SqL.of (h3 _ _ ha)⟩) (by rw[zCE]; lia) ?_ ?_
  ·rintro i v ys H3 hi ⟨h1,h2,h3,h4⟩
   obtain⟨t,et,tr⟩:=trs.get hi;refine (vE rfl ⟨v,t,rfl,tr.same h3,Qb (by lia) i et,U4 oks t (zAE et),fun u H6 s6 cd=>⟨s6 _ _ h1,rfl,Ab,by rw[zAo,h2]; rfl,Ed hpc (h3.trans s6),?_⟩⟩);rw[Bu et];refine CdsAt.snoc (h4.same fun b o e=>?_) (cd.same fun b o e=>?_)
   ·obtain⟨n,e⟩:=Off.at e
    obtain⟨e0,e⟩:=Nw.at e;exact Off.of n (Nw.of e0 (by rw[Ar n]; exact s6 _ _ e))
   ·obtain⟨e0,e⟩:=Nw.at e
    have n:b≠pc:=fun z=>by rw[z,h1] at e0; cases e0
    exact Off.of n (Nw.of (h3.free e0) (by rw[Ar n]; exact e))
  ·rintro ys H3 ⟨h1,h2,h3,h4⟩
   rw[hlen,zAA] at h4;intro y dx ny nd ne;have s3:Same H3 (upd (upd H3 dx (.own y)) y (.ins Ba dx [])):=Ri ny nd;refine⟨y,dx,pc,ys,rfl,Ab,s3 _ _ h1,fun l H4 nl kp hy hl=>⟨rfl,?_⟩⟩;have k4:∀ b o,H3 b=some o->H4 b=some o:=fun b o e=>by rw[kp b (Ap e ny) (Ap (s3 _ _ e) nl)]; exact s3 _ _ e
   refine q _ _ (fun b o e=>k4 _ _ (h3 _ _ e)) ?_;unfold CdAt;refine⟨y,dx,l,ys,rfl,Nw.of (h3.free ny) hy,Nw.of (h3.free (s3.free nl)) hl,h4.same fun b o e=>?_⟩;obtain⟨n,e⟩:=Off.at e;obtain⟨e0,e⟩:=Nw.at e;exact Nw.of e0 (k4 _ _ e)
 | so ts=>
  unfold TrAt at tr;obtain⟨p,a,vs,rfl,hp,ha,trs⟩:=tr;unfold Ow at hg;have hlen:=trs.len;unfold Ng at ok;obtain⟨_,ts8,oks⟩:=ok;refine (vE rfl (vI rfl rfl (SqT.of hp) rfl ⟨rfl,vE rfl (dF (sne (by decide +kernel)) ?_)⟩));refine (vE rfl (vI rfl rfl (SqT.of hp) rfl ⟨rfl,vE rfl (dF (sne (by decide +kernel)) ?_)⟩));refine (vE rfl (vI rfl rfl (SqT.of hp) rfl ⟨rfl,vE rfl (dF (sne (by decide +kernel)) ?_)⟩));refine (vE rfl (vI rfl rfl (SqT.of hp) rfl ⟨rfl,vE rfl (dF (sne (by decide +kernel)) ?_)⟩));refine (vE rfl (vI rfl rfl (SqT.of hp) rfl ⟨rfl,vE rfl (dF (sne (by decide +kernel)) ?_)⟩));refine (vE rfl (vI rfl rfl (SqT.of hp) rfl ⟨rfl,vE rfl (dF (sne (by decide +kernel)) ?_)⟩));refine (vE rfl (vI rfl rfl (SqT.of hp) rfl ⟨rfl,vE rfl (dT rfl (vE rfl (vI rfl rfl (SqT.of hp) rfl ⟨a,rfl,⟨_,SqL.of ha⟩,fun pc hpc=>?_⟩)))⟩));refine Cb (K:=K) (a:=a) (xs:=vs) (fun i ys H3=>H3 pc=some (.lst ys)/\ys.length=i/\Same H H3/\CdsAt (A8.mk Ac Ag Ah Am Au Bb Ba At) (Off pc (Nw H H3)) ys (ts.take i)) ⟨Ab,rfl,An hpc _,by rw[zBG]; unfold CdsAt; trivial⟩ (fun i ys H3 _ ⟨h1,h2,h3,_⟩=>⟨h1,by lia,SqL.of (h3 _ _ ha)⟩) (by rw[zCE]; lia) ?_ ?_
  ·rintro i v ys H3 hi ⟨h1,h2,h3,h4⟩
   obtain⟨t,et,tr⟩:=trs.get hi;refine (vE rfl ⟨v,t,rfl,tr.same h3,Qb (by lia) i et,U4 oks t (zAE et),fun u H6 s6 cd=>⟨s6 _ _ h1,rfl,Ab,by rw[zAo,h2]; rfl,Ed hpc (h3.trans s6),?_⟩⟩);rw[Bu et];refine CdsAt.snoc (h4.same fun b o e=>?_) (cd.same fun b o e=>?_)
   ·obtain⟨n,e⟩:=Off.at e
    obtain⟨e0,e⟩:=Nw.at e;exact Off.of n (Nw.of e0 (by rw[Ar n]; exact s6 _ _ e))
   ·obtain⟨e0,e⟩:=Nw.at e
    have n:b≠pc:=fun z=>by rw[z,h1] at e0; cases e0
    exact Off.of n (Nw.of (h3.free e0) (by rw[Ar n]; exact e))
  ·rintro ys H3 ⟨h1,h2,h3,h4⟩
   rw[hlen,zAA] at h4;intro y dx ny nd ne;have s3:Same H3 (upd (upd H3 dx (.own y)) y (.ins At dx [])):=Ri ny nd;refine⟨y,dx,pc,ys,rfl,Ab,s3 _ _ h1,fun l H4 nl kp hy hl=>⟨rfl,?_⟩⟩;have k4:∀ b o,H3 b=some o->H4 b=some o:=fun b o e=>by rw[kp b (Ap e ny) (Ap (s3 _ _ e) nl)]; exact s3 _ _ e
   refine q _ _ (fun b o e=>k4 _ _ (h3 _ _ e)) ?_;unfold CdAt;refine⟨y,dx,l,ys,rfl,Nw.of (h3.free ny) hy,Nw.of (h3.free (s3.free nl)) hl,h4.same fun b o e=>?_⟩;obtain⟨n,e⟩:=Off.at e;obtain⟨e0,e⟩:=Nw.at e;exact Nw.of e0 (k4 _ _ e)
def cu (r:Rwc):Cvx:=⟨r.p,r.nm,r.t,r.rs.map Ky,r.wt⟩
def un (x:Cvx):Str×Gw×List Cl×Bool:=(x.nm,x.t,x.cs,x.wt)
def Ly (xs:List Cvx):List Cvx:=xs.filter (fun x => !x.wt)++xs.filter (fun x=>x.wt)
theorem E2 {α β:Type} (f:α->β) (g:β->Bool) (xs:List α):((xs.map f).filter g)=(xs.filter (fun x=>g (f x))).map f:=by
 rw[List.filter_map];rfl
theorem Mr {α:Type} (p:α->Bool):∀ xs:List α,(xs.filter (fun x => !p x)++xs.filter p).Perm xs
 | []=>.nil
 | x::xs=>by
  have ih:=Mr p xs;cases e:p x with
  | true=>
   rw[zBL (by rw[e]; decide),zBK e];exact List.perm_middle.trans (ih.cons x)
  | false=>
   rw[zBK (by rw[e]; rfl),zBL (by rw[e]; decide)];exact ih.cons x
theorem Kh (xs:List Cvx):(Ly xs).Perm xs:=Mr (fun x:Cvx=>x.wt) xs
theorem Wn:∀ {S:List Ko} {a c:Int} {lk:Option (Str×Int)},CRT.FormS a lk S c->a<=c/\∀ s∈S,s.1<s.2.1/\s.2.1<=c
 | [],a,c,lk,h=>⟨Int.le_of_eq h,fun s hs=>nomatch hs⟩
 | s::r,a,c,lk,⟨h1,h2,_,h4⟩=>by
  obtain⟨g1,g2⟩:=Wn h4;refine⟨by lia,fun t ht=>?_⟩;rcases zAn.mp ht with e | e
  ·rw[e]; exact⟨h2,g1⟩
  ·exact g2 t e
theorem N6:∀ {cs:List (CRT.Av Str)} {un:List CR.Rn},∀ s∈CRT.paidS cs un,s.2.2.2 = -1
 | [],un,s,h=>nomatch h
 | c::cs,un,s,h=>by
  unfold CRT.paidS at h;rcases zAy.mp h with g | g
  ·unfold CRT.tag at g
   obtain⟨p,_,rfl⟩:=zAr.mp g;rfl
  ·exact N6 s g
set_option tactic.hygienic true in
theorem LD {kvs:Jd} {z:LF} {as:List Cvx} {S:List Ko} (h:Ef kvs z as S):∀ s∈S,-1<=s.2.2.2:=by
 unfold Ef at h
 split at h
 ·rw[h]
  intro s hs;rw[zAk.mp hs];show (-1:Int)<=0
  decide
 ·rename_i x _
  obtain⟨avs,parts,av,ch,pm,so⟩:=h;intro s hs;have hs':=pm.mem_iff.mp hs;unfold CRT.allS at hs';rcases zAy.mp hs' with g | g
  ·have:=N6 s g
   lia
  ·unfold CRT.borneS at g
   obtain⟨l,hl,hsl⟩:=zBI.mp g;obtain⟨p,hp,rfl⟩:=zAr.mp hl;unfold CRT.tag at hsl;obtain⟨q,_,rfl⟩:=zAr.mp hsl;show -1<=Sv (Ca x.cs (numsOf kvs z x)) p.2.2;have pk : -1<=p.2.2:=by
    obtain⟨c,_,_,e⟩:=Wx ch hp;unfold CRP.fw at e;rcases So (sp:=Br z.ct x.cs (numsOf kvs z x)) (k:=0) (c:=c) with y | ⟨i,q,_,y,_⟩
    ·lia
    ·lia
   cases ro:Ca x.cs (numsOf kvs z x) with
   | none=>exact pk
   | some nj=>
    obtain⟨n,j⟩:=nj;obtain⟨j0,_⟩:=Qf ro ch;show -1<=if p.2.2 = -1 then j else p.2.2
    split <;> lia
theorem II {z:Str} (h:Pb (.str z)=true):O4 z:=⟨z.cps.toList,(CP z).symm,of_decide_eq_true h⟩
theorem Ch.uniq {f:Int->Int}:∀ {ps qs:List CRP.Tr3} {s:Int} {lk lk':Option Int} {e:Int},CRP.Ch f s lk ps e->CRP.Ch f s lk' qs e->ps=qs
 | [],[],_,_,_,_,_,_=>rfl
 | [],(l,h,k)::r,s,_,_,e,h1,h2=>by
  have g:=CRP.Ch.get (i:=0) (p:=(l,h,k)) h2 rfl;have e1:s=e:=h1;have g1:l<h:=g.1;have g2:h<=e:=g.2.2.2.2;have g3:s<=l:=g.2.2.2.1
  lia
 | (l,h,k)::r,[],s,_,_,e,h1,h2=>by
  have g:=CRP.Ch.get (i:=0) (p:=(l,h,k)) h1 rfl;have e1:s=e:=h2;have g1:l<h:=g.1;have g2:h<=e:=g.2.2.2.2;have g3:s<=l:=g.2.2.2.1
  lia
 | (l,h,k)::r,(l',h',k')::r',s,_,_,e,h1,h2=>by
  have le1:h<=e:=(CRP.Ch.get (i:=0) (p:=(l,h,k)) h1 rfl).2.2.2.2;have le2:h'<=e:=(CRP.Ch.get (i:=0) (p:=(l',h',k')) h2 rfl).2.2.2.2;obtain⟨a1,a2,a3,a4,a5⟩:=h1;obtain⟨b1,b2,b3,b4,b5⟩:=h2;have ek:k=k':=by
   have z1:=a4 s (by lia) (by lia);have z2:=b4 s (by lia) (by lia)
   lia
  have el:l=l':=by lia
  subst ek el;have eh:h=h':=by
   rcases Int.lt_trichotomy h h' with z | z | z
   ·cases r with
    | nil=>have:h=e:=a5; lia
    | cons x r=>
     obtain⟨l2,g2,k2⟩:=x;obtain⟨c1,c2,c3,c4,c5⟩:=a5;have:=c4 h (by lia) (by lia);have:=b4 h (by lia) z;exact absurd (congrArg some (show k=k2 by lia)) c3
   ·exact z
   ·cases r' with
    | nil=>have:h'=e:=b5; lia
    | cons x r'=>
     obtain⟨l2,g2,k2⟩:=x;obtain⟨c1,c2,c3,c4,c5⟩:=b5;have:=c4 h' (by lia) (by lia);have:=a4 h' (by lia) z;exact absurd (congrArg some (show k=k2 by lia)) c3
  subst eh;rw[Ch.uniq a5 b5]
def V2 (K:zAa):Sp:=fun vs H Q _=>∃ (a:Addr) (ns:List Int),vs=[.ref a]/\SqL K H a (ns.map V.int)/\ns.length<=63/\∀ H',Q (.bl true) H'
theorem AskAt.same {κ:A8} {CC CO CL CM C CB:Addr} {H H':Hp} {b:Addr} {bs:List Cvx} (h:AskAt κ CC CO CL CM C CB H b bs) (s:Same H H'):AskAt κ CC CO CL CM C CB H' b bs:=by
 obtain⟨dx,fs,ak,h1,h2,h3,h4⟩:=h;exact⟨dx,fs,ak,s _ _ h1,h2,s _ _ h3,fun x hx=>(h4 x hx).same s⟩
theorem Nl {α:Type} (f:α->Int):∀ {S T:List α},S.Perm T->S.Pairwise (fun s t=>f s<f t)->T.Pairwise (fun s t=>f s<f t)->S=T
 | [],T,p,_,_=>by rw[List.nil_perm.mp p]
 | a::S,[],p,_,_=>by simp at p
 | a::S,b::T,p,h,g=>by
  obtain⟨h1,h2⟩:=zAO.mp h;obtain⟨g1,g2⟩:=zAO.mp g;have ma:a∈b::T:=p.mem_iff.mp zAj;have mb:b∈a::S:=p.mem_iff.mpr zAj;have e:a=b:=by
   rcases zAn.mp ma with e | e
   ·exact e
   ·rcases zAn.mp mb with e' | e'
    ·exact e'.symm
    ·have:=g1 a e
     have:=h1 b e'
     lia
  subst e;rw[Nl f (List.Perm.cons_inv p) h2 g2]
theorem BT {m n:Int} {l:List Int} (h:Q0 m l) (g:Q0 n l):m=n:=by
 have:=h.2 n g.1;have:=g.2 m h.1
 lia
theorem DT {m n:Int} {l:List Int} (h:Q5 m l) (g:Q5 n l):m=n:=by
 have:=h.2 n g.1;have:=g.2 m h.1
 lia
theorem Sq {kvs:Jd} {z:LF}:∀ {xs ys:List Cvx} {as bs:List (CRT.Av Str)},xs.map un=ys.map un->Avs kvs z xs as->Avs kvs z ys bs->as=bs
 | [],[],[],[],_,_,_=>rfl
 | [],[],[],_::_,_,_,h=>h.elim
 | [],[],_::_,_,_,h,_=>h.elim
 | [],_::_,_,_,e,_,_=>by simp at e
 | _::_,[],_,_,e,_,_=>by simp at e
 | _::_,_::_,[],_,_,h,_=>h.elim
 | _::_,_::_,_::_,[],_,_,h=>h.elim
 | x::xs,y::ys,a::as,b::bs,e,⟨⟨W,hw,ea⟩,r⟩,⟨⟨W',hw',eb⟩,r'⟩=>by
  rw[zAH,zAH] at e;injection e with e1 e2;have k1:x.nm=y.nm:=congrArg (·.1) e1;have k2:x.cs=y.cs:=congrArg (·.2.2.1) e1;have k3:numsOf kvs z x=numsOf kvs z y:=by unfold numsOf; rw[k1,k2]
  rw[k2,k3] at hw ea;obtain⟨lo,hi,m1,m2,rfl⟩:=hw;obtain⟨lo',hi',m1',m2',rfl⟩:=hw';rw[BT m1 m1',DT m2 m2',k1] at ea;rw[Sq e2 r r',ea,eb]
theorem B6 {kvs:Jd} {z:LF} {xs ys:List Cvx} {S T:List Ko} (e:xs.map un=ys.map un) (h:Ef kvs z xs S) (g:Ef kvs z ys T):S=T:=by
 match xs,ys,e,h,g with
 | [],[],_,h,g=>exact Eq.trans (show S=_ from h) (show T=_ from g).symm
 | [],_::_,e,_,_=>simp at e
 | _::_,[],e,_,_=>simp at e
 | x::xs,y::ys,e,⟨av,pa,a1,a2,a3,a4⟩,⟨av',pa',b1,b2,b3,b4⟩=>
  have e0:=e;rw[zAH,zAH] at e;injection e with e1 e2;have k1:x.nm=y.nm:=congrArg (·.1) e1;have k2:x.cs=y.cs:=congrArg (·.2.2.1) e1;have k3:numsOf kvs z x=numsOf kvs z y:=by unfold numsOf; rw[k1,k2]
  rw[k2,k3] at a2 a3;rw[Sq e0 a1 b1,Ch.uniq a2 b2,k1] at a3;exact Nl (fun s:Ko=>s.1) (a3.trans b3.symm) a4 b4
theorem FV {cs:List Cl} {ns:List Int} {n j:Int} (h:Ca cs ns=some (n,j)):0<=j/\j<cs.length:=by
 unfold Ca at h;rcases Je h with z | ⟨i,z1,z2⟩
 ·cases z
 ·have hi:=(zAi.mp z1).1
  unfold Cj at hi;rw[zCl] at hi
  lia
theorem P0 {kvs:Jd} {z:LF} {x:Cvx} {as:List Cvx} {S:List Ko} (h:Ef kvs z (x::as) S):∀ s∈S,(s.2.2.2 = -1/\∃ y∈x::as,s.2.2.1=y.nm)\/(s.2.2.1=x.nm/\0<=s.2.2.2/\s.2.2.2<x.cs.length):=by
 obtain⟨avs,parts,av,ch,pm,so⟩:=h;intro s hs;have hs':=pm.mem_iff.mp hs;unfold CRT.allS at hs';rcases zAy.mp hs' with g | g
 ·refine .inl ⟨N6 s g,?_⟩
  have pn:∀ {cs:List (CRT.Av Str)} {un:List CR.Rn},∀ s∈CRT.paidS cs un,s.2.2.1∈cs.map (·.1):=by
   intro cs
   induction cs with
   | nil=>intro un s h; exact nomatch h
   | cons c cs ih=>
    intro un s h;unfold CRT.paidS at h;rw[zAH];rcases zAy.mp h with g | g
    ·unfold CRT.tag at g
     obtain⟨p,_,rfl⟩:=zAr.mp g;exact zAj
    ·exact zAf _ (ih s g)
  have:=pn s g;rw[av.names] at this;obtain⟨y,hy,e⟩:=zAr.mp this;exact⟨y,hy,e.symm⟩
 ·unfold CRT.borneS at g
  obtain⟨l,hl,hsl⟩:=zBI.mp g;obtain⟨p,hp,rfl⟩:=zAr.mp hl;unfold CRT.tag at hsl;obtain⟨q,_,rfl⟩:=zAr.mp hsl;show (Sv (Ca x.cs (numsOf kvs z x)) p.2.2 = -1/\∃ y∈x::as,x.nm=y.nm)\/(x.nm=x.nm/\0<=Sv (Ca x.cs (numsOf kvs z x)) p.2.2/\Sv (Ca x.cs (numsOf kvs z x)) p.2.2<x.cs.length);have pk:p.2.2 = -1\/(0<=p.2.2/\p.2.2<x.cs.length):=by
   obtain⟨c,_,_,e⟩:=Wx ch hp;unfold CRP.fw at e;rcases So (sp:=Br z.ct x.cs (numsOf kvs z x)) (k:=0) (c:=c) with y | ⟨i,q,y1,y2,_⟩
   ·exact .inl (by lia)
   ·have hi:=(zAi.mp y1).1
    unfold Br at hi;rw[zCl] at hi;exact .inr ⟨by lia,by lia⟩
  cases ro:Ca x.cs (numsOf kvs z x) with
  | none=>
   rcases pk with e | e
   ·exact .inl ⟨e,x,zAj,rfl⟩
   ·exact .inr ⟨rfl,e⟩
  | some nj=>
   obtain⟨n,j⟩:=nj;have rl:=FV ro;refine .inr ⟨rfl,?_⟩;show 0<=(if p.2.2 = -1 then j else p.2.2)/\(if p.2.2 = -1 then j else p.2.2)<(x.cs.length:Int);rcases pk with e | e
   ·rw[if_pos e]; exact rl
   ·rw[if_neg (by lia)]; exact e
def EY (x:Cvx):Cv:=(x.p,x.nm,x.wt)
def HsAt (C:Addr) (H:Hp) (x:Cvx):Prop:=∃ dx fs hv,H x.p=some (.ins C dx fs)/\fs.lookup ("houses" : Str)=some (.ref hv)/\H hv=some (.lst [.str "h"])
theorem HsAt.same {C:Addr} {H H':Hp} {x:Cvx} (h:HsAt C H x) (s:Same H H'):HsAt C H' x:=by
 obtain⟨dx,fs,hv,h1,h2,h3⟩:=h;exact⟨dx,fs,hv,s _ _ h1,h2,s _ _ h3⟩
def Xy (κ:A8) (CC CO CL CM C CB:Addr):Sp:=fun vs H Q _=>∃ a,∃ rows:List Rwc,vs=[.ref a]/\H a=some (.lst (rows.map Kz))/\(∀ x∈rows,RwcAt H x/\Os x)/\FA (rows.map (·.nm)) /\
 ∀ b cl ak (cvs:List Cvx) H',Same H H'->BkAt CB H' b cl ak (cvs.map EY)->(∀ x∈cvs,CvxAt κ CC CO CL CM C H' x/\HsAt C H' x)->cvs.map un=(rows.map cu).map un->Q (.ref b) H'
theorem G0 {κ:A8} {CC CO CL CM C:Addr} {H:Hp} {cvs:List Cvx} (h:∀ x∈cvs,CvxAt κ CC CO CL CM C H x):CvsAt C H (cvs.map EY):=fun c hc=>by
 obtain⟨x,hx,rfl⟩:=zAr.mp hc;obtain⟨dx,fs,_,_,_,e,b1,_,_,b4,_⟩:=h x hx;exact⟨dx,fs,e,b1,b4⟩
theorem L6 {κ:A8} {CC CO CL CM C CB:Addr} {H:Hp} {b cl ak:Addr} {cvs:List Cvx} (B:BkAt CB H b cl ak (cvs.map EY)) (h:∀ x∈cvs,CvxAt κ CC CO CL CM C H x):AskAt κ CC CO CL CM C CB H b (Ly cvs):=by
 obtain⟨⟨d1,gs,hek,k1,k2,k3⟩,hecl,heak⟩:=B;refine⟨d1,gs,ak,hek,k2,?_,fun x hx=>h x ((Kh cvs).mem_iff.mp hx)⟩;rw[heak];unfold IT Ly;rw[E2,E2,<- zAq,zBb];rfl
theorem Ya:Bd ["_law_covers_here", "_law_some", "_law_name", "_law_cond_here", "_law_clauses", "_law_houses", "_law_waits"] ["_law_covers_here"] (As Jh):=⟨rfl,rfl,rfl,by decide +kernel,rfl,by decide +kernel,by decide +kernel⟩
theorem Wh {f:Addr} {fd:zCG} (F:Fun K "_law_book" "_law_book" Jh f fd) (T:Txt K mg) (C_law_clause:Cq P w K mg base 6 "_law_clause" ["_law_clause_here"] (EE Ad Aw Ak Aj)) (C_law_condition:Cq P w K mg base 5 "_law_condition" ["_law_cond_here"] (Q4 (A8.mk Ac Ag Ah Am Au Bb Ba At) 3))
  (KCover:Ej P w K mg base 6 "Cover" Ai ["self", "name", "condition", "clauses", "houses", "waits"] (O2 Ai)) (KBook:Ej P w K mg base 1 "Book" Az ["self", "covers"] (Yf Ai Az)) :
  FnOk P w K mg base Da 8 f fd ["_law_covers_here"] (Xy (A8.mk Ac Ag Ah Am Au Bb Ba At) Ad Aw Ak Aj Ai Az):=by
 have sc:=Ya;refine F.ok sc (fun vs H Q E h=>?_) (fun cdv A outer s H vs Q E hr h=>?_)
 ·obtain⟨_,_,rfl,_⟩:=h
  rfl
 obtain⟨a,rows,rfl,ha,all,N,q⟩:=h;refine⟨_,(Ae (Bf (i:=1) sc.nd rfl (Or.inl rfl) (Ci Af))
   (Ae (Ck PassesOwn.never rfl (Bt (pv 0)) (Ea (n:=5) rfl (Bk (Ay (i:=2) sc.nd rfl (Or.inl rfl)) (Bk (Ay (i:=3) sc.nd rfl (Or.inl rfl)) (Bk (Ay (i:=4) sc.nd rfl (Or.inl rfl)) (Bk (Ay (i:=5) sc.nd rfl (Or.inl rfl)) (Bk (Ay (i:=6) sc.nd rfl (Or.inl rfl)) Dh))))))
    (Ao (Cr (Gk PySem.F.plainAttrs_list PySem.F.slot_list_append PySem.F.type_list_append Do (pv 1) (Aa (Dd KCover (hr.mono (by decide)) rfl (Aa (pv 2) (Aa (Ax C_law_condition (hr.mono (by decide)) rfl (Aa (pv 3) Af)) (Aa (De (NC:=["_law_one"]) (own:=["_law_one"]) (cs:=[]) (ix:=[]) rfl (CompScope.of rfl) rfl trivial (Bt (pv 4)) (fun _ _ _=>(Ay (i:=0) (show (["_law_one"]:List Str).Nodup from by decide +kernel) rfl (Or.inl rfl))) (fun _ _ _=>Cu) (fun _ _ _=>(Ax C_law_clause (hr.mono (by decide)) rfl (Aa (pv 0) Af)))) (Aa (Ep Dp rfl T.n_list (show zCF _=some (.type "list") from rfl) (Aa (pv 5) Af)) (Aa (pv 6) Af)))))) Af)))))
   (Ao (Be (Dd KBook (hr.mono (by decide)) rfl (Aa (pv 1) Af)))))),?_⟩
 have l8:rows.length<=8:=by have:=N.hi; rwa [zAb] at this
 have lm:(rows.map Kz).length=rows.length:=zAb _;refine⟨zAD _,fun sl nsl=>?_⟩;refine Dr [some (.ref a),some (.ref sl),none,none,none,none,none] rfl ?_;have s1:=An nsl (.lst []);have h1:upd H sl (.lst []) sl=some (.lst []):=Ab;generalize upd H sl (.lst [])=H1 at s1 h1;refine (vE rfl ⟨a,rfl,⟨_,SqL.of (s1 _ _ ha)⟩,?_⟩);refine Db (K:=K) (a:=a) (xs:=rows.map Kz) (fun i σ H3=>(∃ o2 o3 o4 o5 o6,σ=[some (.ref a),some (.ref sl),o2,o3,o4,o5,o6])/\(∃ cvs:List Cvx,H3 sl=some (.lst (cvs.map xV))/\(∀ x∈cvs,CvxAt (A8.mk Ac Ag Ah Am Au Bb Ba At) Ad Aw Ak Aj Ai (Off sl H3) x/\HsAt Ai (Off sl H3) x)/\cvs.map un=((rows.take i).map cu).map un)/\Same H H3)
  ⟨⟨none,none,none,none,none,rfl⟩,⟨[],h1,(fun x hx=>nomatch hx),by rw[zBG]; rfl⟩,s1⟩ (fun i σ H3 _ hh=>SqL.of (hh.2.2 _ _ ha)) ?_ ?_
 ·rintro i x σ H4 hi ⟨⟨o2,o3,o4,o5,o6,rfl⟩,⟨cvs,hsl4,acv,eun⟩,s4⟩
  rw[zAs] at hi;obtain⟨r,hx,rfl⟩:=zAJ.mp hi;have mx:=zAE hx;have il:i<rows.length:=(zAi.mp hx).1;obtain⟨⟨tv,cl,hl',ht',xs,g1,g2,g3,g4,g5,g6⟩,rok⟩:=all r mx;have lx:=g4.len;have l3:=rok.l3;refine⟨r.p,_,rfl,SqT.of (s4 _ _ g1),rfl,vC rfl (vC rfl (vC rfl (vC rfl (vC rfl (⟨rfl,?_⟩)))))⟩;refine GI [some (.ref a),some (.ref sl),some (.str r.nm),some tv,some (.ref cl),some (.ref hl'),some (.bl r.wt)] rfl ?_;refine (vE rfl ⟨.inl ⟨rfl,_,SqL.of hsl4⟩,vE rfl (vE rfl ⟨tv,r.t,rfl,TrAt.same s4 _ g2,rok.hg,rok.ok,fun u H5 s5 cd=>?_⟩)⟩);have s45:=s4.trans s5;refine (vE rfl ⟨cl,rfl,⟨_,SqL.of (s45 _ _ g3)⟩,fun kl nkl=>?_⟩);refine Cb (K:=K) (a:=cl) (xs:=xs) (fun j ys H6=>Cls4 Ad Aw Ak Aj H6 ys ((r.rs.take j).map Ky)/\H6 kl=some (.lst ys)/\Same H5 H6) ⟨trivial,Ab,An nkl _⟩
   (fun j ys H6 hj ⟨c1,c2,c3⟩=>⟨c2,by rw[c1.len,zAb,zAx]; lia,SqL.of (c3 _ _ (s45 _ _ g3))⟩) (by rw[zCE]; lia) (fun j y ys H6 hj ⟨c1,c2,c3⟩=>?_) (fun ys H6 ⟨c1,hkl,s6⟩=>?_)
  ·obtain⟨tc,c,ec,rfl,htc⟩:=g4.get hj
   refine (vE rfl ⟨tc,c,rfl,c3 _ _ (s45 _ _ htc),rok.oc c (zAE ec),fun p H7 s7 np hp=>⟨s7 _ _ c2,rfl,?_,Ab,Ed nkl (c3.trans s7)⟩⟩);rw[Bu ec,zAq];exact ((c1.mono (Na s7)).snoc hp).mono (GQ (s7 _ _ c2) _)
  rw[lx,zAA] at c1;have s46:=s45.trans s6;have hsl6:=s6 _ _ (s5 _ _ hsl4);refine (vE rfl ⟨hl',_,rfl,.inl (SqL.of (s46 _ _ g5)),fun h2 nh2=>?_⟩);have s7:=An nh2 (.lst [V.ref ht']);have hh7:upd H6 h2 (.lst [V.ref ht']) h2=some (.lst [V.ref ht']):=Ab;generalize upd H6 h2 (.lst [V.ref ht'])=H7 at s7 hh7;refine (vE rfl (fun p dp np ndp nep=>?_));have s8:Same H7 (upd (upd H7 dp (.own p)) p (.ins Ai dp [])):=(An ndp _).trans (An (by rw[Ar (Ne.symm nep)]; exact np) _);refine⟨p,dp,r.nm,u,kl,ys,h2,ht',r.wt,rfl,Ab,N.ok _ (zAr.mpr ⟨r,mx,rfl⟩),s8 _ _ (s7 _ _ hkl),by rw[c1.len,zAb]; lia,s8 _ _ hh7,s8 _ _ (s7 _ _ (s46 _ _ g6)),fun H9 cl9 h9 d0 fs k9 e9 b1 b2 b3 bh b4 b5 hcl9 fcl9 hh9 fh9=>⟨rfl,?_⟩⟩;have s9:Same H7 H9:=Dw np ndp k9;have s69:=s7.trans s9;have hsl9:=s69 _ _ hsl6;have lcv:cvs.length=i:=by
   have:=congrArg List.length eun;rw[zAb,zAb,zAb,zAx] at this
   lia
  refine⟨sl,_,_,rfl,rfl,hsl9,by rw[zAb,zCE]; lia,?_⟩;have eapp:cvs.map xV++[V.ref p]=(cvs++[Cvx.mk p r.nm r.t (r.rs.map Ky) r.wt]).map xV:=by rw[zAq]; rfl
  rw[eapp];have nps:p≠sl:=(Ap (s7 _ _ hsl6) np).symm;have ncs:cl9≠sl:=(Ap (s8 _ _ (s7 _ _ hsl6)) fcl9).symm;have nhs:h9≠sl:=(Ap (s8 _ _ (s7 _ _ hsl6)) fh9).symm;have up:∀ {b:Addr} {o:HO},b≠sl->H9 b=some o->Off sl (upd H9 sl (.lst ((cvs++[Cvx.mk p r.nm r.t (r.rs.map Ky) r.wt]).map xV))) b=some o:=fun n y=>Off.of n (by rw[Ar n]; exact y);have s59:=s5.trans (s6.trans s69);refine⟨⟨_,_,_,_,_,rfl⟩,⟨_,Ab,fun x hx=>?_,?_⟩,fun b o y=>?_⟩
  ·rcases zAy.mp hx with g | g
   ·have sm:Same (Off sl H4) (Off sl (upd H9 sl (.lst ((cvs++[Cvx.mk p r.nm r.t (r.rs.map Ky) r.wt]).map xV)))):=fun b o y=>up (Off.at y).1 (s59 _ _ (Off.at y).2)
    exact⟨(acv x g).1.same sm,(acv x g).2.same sm⟩
   ·rw[zAk.mp g]
    refine⟨⟨d0,fs,u,cl9,ys,up nps e9,b1,b2,b3,b4,b5,CdAt.same (fun b o y=>?_) _ cd,up ncs hcl9,c1.mono fun t C dx fs z=>?_,by show (r.rs.map Ky).length<=8; rw[zAb]; lia⟩,⟨d0,fs,h9,up nps e9,bh,up nhs hh9⟩⟩
    ·obtain⟨y1,y2⟩:=Nw.at y
     exact up (fun e=>by rw[e,hsl4] at y1; cases y1) (s69 _ _ (s6 _ _ y2))
    ·have z9:=s69 _ _ z
     exact up (Iz z9 hsl9 (by intro e; cases e)) z9
  ·rw[zAq,eun,Bu hx,zAq,zAq]
   rfl
  ·rw[Ar (Ap y nsl)]
   exact s59 _ _ (s4 b o y)
 ·rintro σ H3 ⟨⟨o2,o3,o4,o5,o6,rfl⟩,⟨cvs,hsl,acv,eun⟩,s3⟩
  rw[zAb,zAA] at eun;have lcv:cvs.length=rows.length:=by
   have:=congrArg List.length eun
   rwa [zAb,zAb,zAb] at this
  have acv3:∀ x∈cvs,CvxAt (A8.mk Ac Ag Ah Am Au Bb Ba At) Ad Aw Ak Aj Ai H3 x/\HsAt Ai H3 x:=fun x hx=>⟨(acv x hx).1.same fun b o y=>(Off.at y).2,(acv x hx).2.same fun b o y=>(Off.at y).2⟩;have enm:cvs.map (·.nm)=rows.map (·.nm):=by
   have:=congrArg (List.map (fun y:Str×Gw×List Cl×Bool=>y.1)) eun;rw[zBb,zBb,zBb] at this;exact this
  refine (vE rfl (fun bk db nbk ndb neb=>?_));have s4:Same H3 (upd (upd H3 db (.own bk)) bk (.ins Az db [])):=(An ndb _).trans (An (by rw[Ar (Ne.symm neb)]; exact nbk) _);have ecv:(cvs.map EY).map Qc=cvs.map xV:=by rw[zBb]; rfl
  refine⟨bk,db,sl,cvs.map EY,rfl,Ab,by rw[ecv]; exact s4 _ _ hsl,(G0 fun x hx=>(acv3 x hx).1).same s4,by rw[zAb]; lia,?_,fun cl ak H5 k5 B ncl nak=>⟨rfl,?_⟩⟩
  ·rw[zBb]
   show (cvs.map (·.nm)).Nodup;rw[enm];exact N.nd
  ·have s5:Same H3 H5:=Dw nbk ndb k5
   exact q bk cl ak cvs H5 (s3.trans s5) B (fun x hx=>⟨(acv3 x hx).1.same s5,(acv3 x hx).2.same s5⟩) eun
def KForm (kvs:Jd):Prop:=(∀ p∈kvs,∃ nm k y,∃ n:Int,p=(Py nm k y,V.int n))/\(kvs.map (·.1)).Nodup
theorem B0 {kvs:Jd} {k:List Dt} {v:V} (h:Es kvs k=some v):(k,v)∈kvs:=by
 unfold Es at h;obtain⟨p,hp,rfl⟩:=zAJ.mp h;have e:=List.find?_some hp;have:p.1=k:=of_decide_eq_true e;rw[<- this];exact List.mem_of_find?_eq_some hp
theorem AD {kvs:Jd} {k:List Dt} (h:k∉kvs.map (·.1)):Es kvs k=none:=by
 cases e:Es kvs k with
 | none=>rfl
 | some v=>exact absurd (zAr.mpr ⟨_,B0 e,rfl⟩) h
theorem CY {kvs:Jd} {k:List Dt} {v:V} (h:k∉kvs.map (·.1)):Gy kvs k v=kvs++[(k,v)]:=by
 unfold Gy;rw[if_neg];intro z;obtain⟨p,hp,e⟩:=zCg.mp z;exact h (zAr.mpr ⟨p,hp,of_decide_eq_true e⟩)
theorem X3 {kvs:Jd} {k:List Dt} {v:V}:(Gy kvs k v).map (·.1)=kvs.map (·.1)\/(k∉kvs.map (·.1)/\(Gy kvs k v).map (·.1)=kvs.map (·.1)++[k]):=by
 unfold Gy;by_cases z:(kvs.any fun kv=>decide (kv.1=k))=true
 ·rw[if_pos z,zBb]
  refine .inl ?_
  congr 1
  funext p
  show (if p.1=k then (p.1,v) else p).1=p.1
  split <;> rfl
 ·rw[if_neg z,zAq]
  refine .inr ⟨fun m=>z ?_,rfl⟩;obtain⟨p,hp,e⟩:=zAr.mp m;exact zCg.mpr ⟨p,hp,decide_eq_true e⟩
theorem BH {kvs:Jd} {k:List Dt} {v:V} {p:List Dt×V} (h:p∈Gy kvs k v):p∈kvs\/p=(k,v):=by
 unfold Gy at h
 split at h
 ·obtain⟨q,hq,e⟩:=zAr.mp h
  by_cases c:q.1=k
  ·rw[if_pos c,c] at e
   exact .inr e.symm
  ·rw[if_neg c] at e
   exact .inl (by rw[<- e]; exact hq)
 ·rcases zAy.mp h with g | g
  ·exact .inl g
  ·exact .inr (zAk.mp g)
theorem KForm.put {kvs:Jd} (h:KForm kvs) (nm:Str) (k:Int) (y:Dt) (n:Int):KForm (Gy kvs (Py nm k y) (.int n)):=by
 refine⟨fun p hp=>?_,?_⟩
 ·rcases BH hp with g | g
  ·exact h.1 p g
  ·exact⟨nm,k,y,n,g⟩
 ·rcases X3 (kvs:=kvs) (k:=Py nm k y) (v:=.int n) with e | ⟨z,e⟩
  ·rw[e]
   exact h.2
  ·rw[e,zBU]
   refine⟨h.2,List.pairwise_singleton _ _,fun a ha b hb e=>?_⟩;rw[zAk.mp hb] at e;exact z (e▸ha)
theorem KForm.int {kvs:Jd} (h:KForm kvs):IntV kvs:=fun k v e=>by
 obtain⟨nm,j,y,n,ep⟩:=h.1 _ (B0 e);exact⟨n,(congrArg Prod.snd ep)⟩
def N4 (kvs:Jd) (z:LF) (rows:List Rwc):Prop:=∀ r∈rows,∀ (j:Nat) (c:JB),r.rs[j]?=some c->∃ n:Int,Es kvs (Py r.nm (j:Int) (Rm c.2.1 z))=some (.int n)
def Wm:Sp:=fun vs H Q _=>∃ a l,∃ rows:List Rwc,∃ z,∃ c u:Int,vs=[.ref a,.ref l,.int c,.int u]/\H a=some (.lst (rows.map Kz))/\(∀ x∈rows,RwcAt H x/\Os x)/\rows.length<=8/\H l=some (.tup (LF.vs z))/\Iu u /\
 ∀ d kvs H',Same H H'->H d=none->H' d=some (.dT kvs)->KForm kvs->kvs.length<=3*rows.length->N4 kvs z rows->Q (.ref d) H'
def G7 (CN:Addr):Sp:=fun vs H Q _=>∃ d kvs,vs=[.ref d]/\H d=some (.dT kvs)/\KForm kvs/\kvs.length<=700/\∀ p kp H',Same H H'->CtAt CN H' p kp kvs->H p=none->H kp=none->Q (.ref p) H'
theorem PR:(0:Int)<(10:Int)^(60:Int).toNat:=by decide +kernel
theorem Uf:Bd ["_law_covers_here", "_law_loss_here", "_law_cell_here", "_law_unit_here", "_law_drawn", "_law_had_of", "_law_c", "_law_name", "_law_cond_here", "_law_clauses", "_law_houses", "_law_waits", "_law_k", "_law_number"] ["_law_covers_here", "_law_loss_here", "_law_cell_here", "_law_unit_here"] (As Hx):=⟨rfl,rfl,rfl,by decide +kernel,rfl,by decide +kernel,by decide +kernel⟩
set_option tactic.hygienic true in
theorem Tu {f:Addr} {fd:zCG} (F:Fun K "_law_state" "_law_state" Hx f fd) (T:Txt K mg) (C_law_amount:Cq P w K mg base 1 "_law_amount" ["_law_digit", "_law_unit_here"] A4) (C_law_key:Cq P w K mg base 1 "_law_key" ["_law_by", "_law_loss_here"] M5) :
  FnOk P w K mg base Da 2 f fd ["_law_covers_here", "_law_loss_here", "_law_cell_here", "_law_unit_here"] Wm:=by
 have sc:=Uf;refine F.ok sc (fun vs H Q E h=>?_) (fun cdv A outer s H vs Q E hr h=>?_)
 ·obtain⟨_,_,_,_,_,_,rfl,_⟩:=h
  rfl
 obtain⟨a,l,rows,z,c0,u,rfl,ha,all,l8,hl,uo,q⟩:=h;have hu2:=V1 hr;refine⟨_,(Ae (Bf (i:=4) sc.nd rfl (Or.inl rfl) (Bc Bx (Bc Dy (pv 2) Al) Al))
   (Ae (Bf (i:=5) sc.nd rfl (Or.inl rfl) Yw)
   (Ae (Ck PassesOwn.never rfl (Cz rfl T.n_range (Aa (Bn Cc rfl T.n_len (show zCF _=some (.builtin "len") from rfl) (Aa (pv 0) Af)) Af)) (Ay (i:=6) sc.nd rfl (Or.inl rfl))
    (Ae (Xz (Bh Bp (pv 0) (pv 6) (fun _ _=>rfl)) (Ea (n:=5) rfl (Bk (Ay (i:=7) sc.nd rfl (Or.inl rfl)) (Bk (Ay (i:=8) sc.nd rfl (Or.inl rfl)) (Bk (Ay (i:=9) sc.nd rfl (Or.inl rfl)) (Bk (Ay (i:=10) sc.nd rfl (Or.inl rfl)) (Bk (Ay (i:=11) sc.nd rfl (Or.inl rfl)) Dh)))))))
   (Ao (Ck PassesOwn.never rfl (Cz rfl T.n_range (Aa (Bn Cc rfl T.n_len (show zCF _=some (.builtin "len") from rfl) (Aa (pv 9) Af)) Af)) (Ay (i:=12) sc.nd rfl (Or.inl rfl))
    (Ae (Bf (i:=13) sc.nd rfl (Or.inl rfl) (Ax C_law_amount (hr.mono (by decide)) rfl (Aa (Bc By (Bc Bx (Bc By (pv 4) (Bc Cm (Bc Cm Al (Bc Dy Al (pv 6))) (Bc Dy Al (pv 12)))) Al) Al) (Aa (pv 3) Af))))
   (Ae (Bw (Bj Di (Bh Bq (Bh Bp (pv 9) (pv 12) (fun _ _=>rfl)) Al (fun _ _=>rfl)) Bz (Bm _))
    (Ao (Bf (i:=13) sc.nd rfl (Or.inl rfl) (Bn (Hw rfl) rfl T.n_min (show zCF _=some (.builtin "min") from rfl) (Aa (pv 13) (Aa (Bh Bq (Bh Bp (pv 9) (pv 12) (fun _ _=>rfl)) Al (fun _ _=>rfl)) Af)))))
    (Ao (Bw (Bj Di (Bc Bx (pv 4) Al) Al (Bm _))
    (Ao (Bf (i:=13) sc.nd rfl (Or.inl rfl) (Bc Bx (pv 2) (Bc Qx Al Al))))
    Bl)))
   (Ao (U3 hu2 (pv 5) (Cd (Aa (pv 7) (Aa (pv 12) (Aa (Ax C_law_key (hr.mono (by decide)) rfl (Aa (Bh Bq (Bh Bp (pv 9) (pv 12) (fun _ _=>rfl)) Al (fun _ _=>rfl)) (Aa (pv 1) Af))) Af)))) (pv 13) rfl))))))))
   (Ao (Be (pv 5)))))),?_⟩
 have lm:(rows.map Kz).length=rows.length:=zAb _;refine (vE rfl (vF rfl rfl ⟨.inr ⟨by decide,by decide⟩,vF rfl rfl ⟨(by show (0:Int)<2147483647; decide),?_⟩⟩));refine Mu 0 2147483646 (md (by decide)) fun dr dr0 dr1=>?_;intro d nd;refine Dr [some (.ref a),some (.ref l),some (.int c0),some (.int u),some (.int dr),some (.ref d),none,none,none,none,none,none,none,none] rfl ?_;have s1:=An nd (.dT []);have h1:upd H d (.dT []) d=some (.dT []):=Ab;generalize upd H d (.dT [])=H1 at s1 h1;refine (vE rfl ⟨a,_,rfl,.inl (SqL.of (s1 _ _ ha)),vE rfl ⟨by rw[lm]; lia,by rw[lm]; lia,?_⟩⟩);rw[show (((rows.map Kz).length:Int)).toNat=rows.length by rw[lm]; lia];refine En (lo:=0) (n:=rows.length) (fun i σ H2=>(∃ o6 o7 o8 o9 o10 o11 o12 o13,σ=[some (.ref a),some (.ref l),some (.int c0),some (.int u),some (.int dr),some (.ref d),o6,o7,o8,o9,o10,o11,o12,o13])/\(∃ kvs,H2 d=some (.dT kvs)/\KForm kvs/\kvs.length<=3*i/\N4 kvs z (rows.take i))/\Same H H2)
  ⟨⟨none,none,none,none,none,none,none,none,rfl⟩,⟨[],h1,⟨(fun p hp=>nomatch hp),zCt⟩,zAD _,fun r hr'=>by rw[zBG] at hr'; exact nomatch hr'⟩,s1⟩ ?_ ?_
 ·rintro i σ H2 hi ⟨⟨o6,o7,o8,o9,o10,o11,o12,o13,rfl⟩,⟨kvs,hd2,kf,lk,ha2⟩,s2⟩
  have er:rows[i]?=some rows[i]:=zAe hi;generalize rows[i]=r at er;have mx:=zAE er;obtain⟨⟨tv,cl,hl',ht',xs,g1,_,g3,g4,_,_⟩,rok⟩:=all r mx;have ai:Nf (rows.map Kz) (0+(i:Int))=some (.ref r.p):=by
   rw[show (0+(i:Int))=(i:Int) by lia];refine Ey ?_;rw[zAs,er];rfl
  have lx:=g4.len;have l3:=rok.l3;refine Dr [some (.ref a),some (.ref l),some (.int c0),some (.int u),some (.int dr),some (.ref d),some (.int (0+(i:Int))),o7,o8,o9,o10,o11,o12,o13] rfl ?_;refine (vE rfl (vE rfl (vI rfl rfl (SqL.of (s2 _ _ ha)) ai ⟨r.p,_,rfl,SqT.of (s2 _ _ g1),rfl,vC rfl (vC rfl (vC rfl (vC rfl (vC rfl (⟨rfl,?_⟩)))))⟩)));refine GI [some (.ref a),some (.ref l),some (.int c0),some (.int u),some (.int dr),some (.ref d),some (.int (0+(i:Int))),some (.str r.nm),some tv,some (.ref cl),some (.ref hl'),some (.bl r.wt),o12,o13] rfl ?_;refine (vE rfl ⟨cl,_,rfl,.inl (SqL.of (s2 _ _ g3)),vE rfl ⟨by lia,by lia,?_⟩⟩);rw[show ((xs.length:Int)).toNat=r.rs.length by lia];refine En (lo:=0) (n:=r.rs.length) (fun j σ H3=>(∃ o12 o13,σ=[some (.ref a),some (.ref l),some (.int c0),some (.int u),some (.int dr),some (.ref d),some (.int (0+(i:Int))),some (.str r.nm),some tv,some (.ref cl),some (.ref hl'),some (.bl r.wt),o12,o13])/\(∃ kvs,H3 d=some (.dT kvs)/\KForm kvs/\kvs.length<=3*i+j/\N4 kvs z (rows.take i)/\∀ (j':Nat) (c:JB),j'<j->r.rs[j']?=some c->∃ n:Int,Es kvs (Py r.nm (j':Int) (Rm c.2.1 z))=some (.int n))/\Same H H3)
   ⟨⟨o12,o13,rfl⟩,⟨kvs,hd2,kf,by lia,ha2,fun j' c h=>absurd h (zBq _)⟩,s2⟩ ?_ ?_
  ·rintro j σ H3 hj ⟨⟨o12,o13,rfl⟩,⟨kvs,hd3,kf3,lk3,ha3,hj3⟩,s3⟩
   have ec:r.rs[j]?=some r.rs[j]:=zAe hj;generalize r.rs[j]=c at ec;obtain⟨tc,htc,hc⟩:=g4.at ec;have aj:Nf xs (0+(j:Int))=some (.ref tc):=by rw[show (0+(j:Int))=(j:Int) by lia]; exact Ey htc
   refine Dr [some (.ref a),some (.ref l),some (.int c0),some (.int u),some (.int dr),some (.ref d),some (.int (0+(i:Int))),some (.str r.nm),some tv,some (.ref cl),some (.ref hl'),some (.bl r.wt),some (.int (0+(j:Int))),o13] rfl ?_;refine (vE rfl (vE rfl (vF rfl rfl ⟨.inl ⟨by decide,by decide⟩,vF rfl rfl (vE rfl (vF rfl rfl ⟨.inl ⟨by decide,by decide⟩,vF rfl rfl (vF rfl rfl ⟨⟨by lia,by lia⟩,_,_,rfl,rfl,(by show (0:Int)<78; decide),_,_,rfl,rfl,⟨by decide,by decide⟩,_,rfl,_,u,rfl,?_,uo,fun m m0 m1=>?_⟩)⟩))⟩)))
   ·have:=md (a:=dr/(1+5*(0+(i:Int))+3*(0+(j:Int)))) (b:=78) (by decide)
    lia
   refine Dr [some (.ref a),some (.ref l),some (.int c0),some (.int u),some (.int dr),some (.ref d),some (.int (0+(i:Int))),some (.str r.nm),some tv,some (.ref cl),some (.ref hl'),some (.bl r.wt),some (.int (0+(j:Int))),some (.int m)] rfl ?_;refine (vE rfl (vE rfl (vI rfl rfl (SqL.of (s3 _ _ g3)) aj (vI rfl rfl (SqT.of (s3 _ _ hc)) rfl ⟨rfl,vE rfl ?_⟩))));refine HQ (fun σ H'=>(∃ m:Int,σ=[some (.ref a),some (.ref l),some (.int c0),some (.int u),some (.int dr),some (.ref d),some (.int (0+(i:Int))),some (.str r.nm),some tv,some (.ref cl),some (.ref hl'),some (.bl r.wt),some (.int (0+(j:Int))),some (.int m)])/\H'=H3) (fun _ N R=>?_) (fun _ N R=>?_) ?_
   ·exact (vE rfl (vE rfl (vE rfl (vI rfl rfl (SqL.of (s3 _ _ g3)) aj (vI rfl rfl (SqT.of (s3 _ _ hc)) rfl ⟨_,_,rfl,R _ _ ⟨⟨_,rfl⟩,rfl⟩⟩)))))
   ·refine (vE rfl (vF rfl rfl ⟨(by show (0:Int)<9; decide),rfl,vE rfl ?_⟩))
    by_cases c4:dr%9=4
    ·exact dT (congrArg V.int c4) (vE rfl (vF rfl rfl ⟨⟨by decide,by decide,by decide⟩,_,_,rfl,rfl,PR,R _ _ ⟨⟨_,rfl⟩,rfl⟩⟩))
    ·exact dF (fun e=>c4 (V.int.inj e)) (R _ _ ⟨⟨_,rfl⟩,rfl⟩)
   rintro σ H' ⟨⟨m,rfl⟩,rfl⟩;refine (vE rfl (vE rfl (vE rfl (vE rfl (vE rfl (vE rfl (vI rfl rfl (SqL.of (s3 _ _ g3)) aj (vI rfl rfl (SqT.of (s3 _ _ hc)) rfl (vE rfl ⟨c.2.1,l,z,rfl,s3 _ _ hl,Cf (by show 3<=1000; decide),fun t nt=>?_⟩)))))))));have s4:=An nt (.tup [V.str r.nm,.int (0+(j:Int)),kV (Rm c.2.1 z)]);refine⟨d,_,rfl,DPut.t (k:=Py r.nm (0+(j:Int)) (Rm c.2.1 z)) (s4 _ _ hd3) Ab (by rw[zCE]; lia),?_⟩;have e0:(0+(j:Int))=(j:Int):=by lia
   refine⟨⟨_,_,rfl⟩,⟨_,Ab,kf3.put _ _ _ _,zAG (Jl _ _ _) (by lia),fun r' hr' j' c' e'=>?_,fun j' c' hj' e'=>?_⟩,fun b o y=>?_⟩
   ·obtain⟨n',en⟩:=ha3 r' hr' j' c' e'
    rw[C7]
    split
    ·exact⟨_,rfl⟩
    ·exact⟨n',en⟩
   ·rw[C7]
    split
    ·exact⟨_,rfl⟩
    ·rename_i ne
     by_cases ej:j'=j
     ·subst ej
      rw[ec] at e';cases e';rw[e0] at ne;exact absurd rfl ne
     ·exact hj3 j' c' (by lia) e'
   ·rw[Ar (Ap y nd)]
    exact s4 _ _ (s3 b o y)
  ·rintro σ H3 ⟨⟨o12,o13,rfl⟩,⟨kvs,hd3,kf3,lk3,ha3,hj3⟩,s3⟩
   refine⟨⟨_,_,_,_,_,_,_,_,rfl⟩,⟨kvs,hd3,kf3,by lia,fun r' hr' j' c' e'=>?_⟩,s3⟩;rw[Bu er] at hr';rcases zAy.mp hr' with g | g
   ·exact ha3 r' g j' c' e'
   ·rw[zAk.mp g] at e' ⊢
    exact hj3 j' c' (zAi.mp e').1 e'
 ·rintro σ H2 ⟨⟨o6,o7,o8,o9,o10,o11,o12,o13,rfl⟩,⟨kvs,hd2,kf,lk,ha2⟩,s2⟩
  rw[zAA] at ha2;exact (vE rfl (q d kvs H2 s2 nd hd2 kf lk ha2))
theorem Qw:Bd ["_law_had_of", "_law_counts_here", "_law_place", "_law_number"] ["_law_had_of"] (As Hf):=⟨rfl,rfl,rfl,by decide +kernel,rfl,by decide +kernel,by decide +kernel⟩
theorem Rq {f:Addr} {fd:zCG} (F:Fun K "_law_counts" "_law_counts" Hf f fd) (T:Txt K mg) (KCounts:Ej P w K mg base 1 "Counts" Aq ["self"] (EF Aq)) (Madd:Ix P w K mg base 2 Aq "add" ["self", "name", "k", "key", "cents"] (AV Aq)) :
  FnOk P w K mg base Da 3 f fd ["_law_had_of"] (G7 Aq):=by
 have sc:=Qw;refine F.ok sc (fun vs H Q E h=>?_) (fun cdv A outer s H vs Q E hr h=>?_)
 ·obtain⟨_,_,rfl,_⟩:=h
  rfl
 obtain⟨d,kvs,rfl,hd,kf,lk,q⟩:=h;refine⟨_,(Ae (Bf (i:=1) sc.nd rfl (Or.inl rfl) (W7 KCounts (hr.mono (by decide)) rfl))
   (Ae (GC (Ck PassesOwn.never rfl (BW (pv 0)) (Ea (n:=2) rfl (Bk (Ay (i:=2) sc.nd rfl (Or.inl rfl)) (Bk (Ay (i:=3) sc.nd rfl (Or.inl rfl)) Dh)))
    (Ao (Cr (Ec Madd (hr.mono (by decide)) (pv 1) (Aa (Bh Bq (pv 2) Al (fun _ _=>rfl)) (Aa (Bh Bq (pv 2) Al (fun _ _=>rfl)) (Aa (Bh Bq (pv 2) Al (fun _ _=>rfl)) (Aa (pv 3) Af)))))))))
   (Ao (Be (pv 1))))),?_⟩
 intro p dp np ndp nep;refine⟨p,dp,rfl,Ab,fun kp H1 k1 ct nkp=>⟨rfl,?_⟩⟩;have s1:Same H H1:=Dw np ndp k1;have fk:H kp=none:=Y8 nkp;refine Dr [some (.ref d),some (.ref p),none,none] rfl ?_;have hd1:=s1 _ _ hd;have ndk:d≠kp:=Ap hd fk;have ndp':d≠p:=Ap hd np;refine⟨d,_,hd1,trivial,_,rfl,d,kvs,rfl,hd1,fun ob=>?_⟩;have cf:CtAt Aq (upd H1 d (.frz ob (.dT kvs))) p kp []:=by
  obtain⟨⟨dx,fs,e,r⟩,h1⟩:=ct;exact⟨⟨dx,fs,by rw[Ar ndp'.symm]; exact e,r⟩,by rw[Ar ndk.symm]; exact h1⟩
 refine Z3 (a:=d) (ob:=ob) (kvs:=kvs) (fun i σ H2=>(∃ o2 o3,σ=[some (.ref d),some (.ref p),o2,o3])/\CtAt Aq H2 p kp (kvs.take i)/\H2 d=some (.frz ob (.dT kvs))/\∀ b o,H b=some o->b≠d->H2 b=some o)
  ⟨⟨none,none,rfl⟩,cf,Ab,fun b o y n=>by rw[Ar n]; exact s1 _ _ y⟩ (fun i σ H2 _ hh=>hh.2.2.1) ?_ ?_
 ·rintro i k v σ H2 t b ei ⟨⟨o2,o3,rfl⟩,ct2,hd2,kp2⟩ nt hb
  have mi:=zAE ei;have il:i<kvs.length:=(zAi.mp ei).1;obtain⟨nm,j,y,n,ekv⟩:=kf.1 _ mi;cases ekv;have nin:Py nm j y∉(kvs.take i).map (·.1):=fun hm=>by
   have nd:=kf.2;rw[<- List.take_append_drop (i+1) kvs,Bu ei,zAq,zAq,zBU] at nd;have nd1:=nd.1;rw[zBU] at nd1;exact nd1.2.2 _ hm _ (zAk.mpr rfl) rfl
  have s3:=An nt (.tup [V.ref b,.int n]);have hb3:=s3 _ _ hb;have ct3:=ct2.same s3;have hd3:=s3 _ _ hd2;have kp3:∀ c o,H c=some o->c≠d->upd H2 t (.tup [V.ref b,.int n]) c=some o:=fun b' o y n'=>s3 _ _ (kp2 b' o y n');generalize upd H2 t (.tup [V.ref b,.int n])=H3 at s3 hb3 ct3 hd3 kp3;obtain⟨⟨dx,fs,hp,b1,b2,b3⟩,_⟩:=id ct3;have en:Qj (kvs.take i) nm j y = .int 0:=by
   unfold Qj;rw[AD nin];rfl
  refine GI [some (.ref d),some (.ref p),some (.ref b),some (.int n)] rfl ?_;refine (vE rfl ⟨p,dx,fs,rfl,hp,b3,_,rfl,vI rfl rfl (SqT.of hb3) rfl (vE rfl (vI rfl rfl (SqT.of hb3) rfl (vE rfl (vI rfl rfl (SqT.of hb3) rfl (vE rfl ⟨p,kp,kvs.take i,nm,j,y,n,0,rfl,ct3,en,by rw[zAx]; lia,fun H4 s4=>?_⟩)))))⟩);have ndk4:d≠kp:=ndk;refine⟨⟨_,_,rfl⟩,?_,by rw[Ar ndk4]; exact s4 _ _ hd3,fun b' o y' n'=>?_⟩
  ·have:=(ct3.same s4).put (kvs.take (i+1))
   rw[CY nin,Bu ei,show (0+n)=n by lia];rw[Bu ei] at this;exact this
  ·rw[Ar (Ap y' fk)]
   exact s4 _ _ (kp3 b' o y' n')
 ·rintro σ H2 ⟨⟨o2,o3,rfl⟩,ct2,hd2,kp2⟩
  rw[zAA] at ct2;refine⟨ob,hd2,_,rfl,q p kp _ (fun b o y=>?_) ?_ np fk⟩
  ·by_cases e:b=d
   ·subst e
    rw[hd] at y;cases y;exact Ab
   ·rw[Ar e]
    exact kp2 b o y e
  ·obtain⟨⟨dx,fs,e,r⟩,h1⟩:=ct2
   exact⟨⟨dx,fs,by rw[Ar ndp'.symm]; exact e,r⟩,by rw[Ar ndk.symm]; exact h1⟩
end
theorem OO {kvs:Jd} {z:LF} {x:Cvx} {parts:List CRP.Tr3} (ch:CRP.Ch (CRP.fw (Br z.ct x.cs (numsOf kvs z x))) 0 none parts z.ct) {p:CRP.Tr3} (hp:p∈parts) : -1<=Sv (Ca x.cs (numsOf kvs z x)) p.2.2:=by
 have pk : -1<=p.2.2:=by
  obtain⟨c,_,_,e⟩:=Wx ch hp;unfold CRP.fw at e;rcases So (sp:=Br z.ct x.cs (numsOf kvs z x)) (k:=0) (c:=c) with y | ⟨i,q,_,y,_⟩
  ·lia
  ·lia
 cases ro:Ca x.cs (numsOf kvs z x) with
 | none=>exact pk
 | some nj=>
  obtain⟨n,j⟩:=nj;obtain⟨j0,_⟩:=Qf ro ch;show -1<=if p.2.2 = -1 then j else p.2.2
  split <;> lia
theorem Zw {kvs:Jd} {z:LF} {x:Cvx} {xs:List Cvx} {avs:List (CRT.Av Str)} (av:Avs kvs z (x::xs) avs) (c0:0<z.ct) {parts:List CRP.Tr3} (ch:CRP.Ch (CRP.fw (Br z.ct x.cs (numsOf kvs z x))) 0 none parts z.ct) :
  ∀ s∈CRT.borneS x.nm (Sv (Ca x.cs (numsOf kvs z x))) parts (CRT.leftS avs [(0,z.ct)]),0<=s.2.2.2:=by
 intro s hs;obtain⟨p,hp,e,q,hq,e1,e2⟩:=CRT.borne_mem hs;rw[e];show 0<=Sv (Ca x.cs (numsOf kvs z x)) p.2.2;have ge:=OO ch hp;by_cases m:Sv (Ca x.cs (numsOf kvs z x)) p.2.2 = -1
 ·exfalso
  obtain⟨b1,b2,b3⟩:=CRT.cutW_bd hq;have inn:CR.inR (CR.cutW (CRT.leftS avs [(0,z.ct)]) p.1 p.2.1) q.1=true:=CR.inR_iff.mpr ⟨q,hq,Int.le_refl _,b3⟩;rw[CR.cutW_in,zAv] at inn;have no:=M3 av c0 ch p hp m q.1 b1 (by lia);rw[no] at inn;cases inn.1
 ·lia
def Y5 (ns:List Str) (S:List Ko):List Ko:=S.filter fun s=>decide (s.2.2.2<0)&&E5 (.str s.2.2.1) (ns.map V.str)
theorem FN {x:Str} {l:List Str}:E5 (.str x) (l.map V.str)=true↔x∈l:=by
 unfold E5;rw[List.any_map,zCg];constructor
 ·rintro ⟨y,hy,e⟩
  have e':Pq (.str y) (.str x)=true:=e;have:y=x:=by simpa [Pq] using e'
  rw[<- this]; exact hy
 ·intro h
  exact⟨x,h,by show Pq (.str x) (.str x)=true; simp [Pq]⟩
theorem pd_iff {ns:List Str} {s:Ko}:(decide (s.2.2.2<0)&&E5 (.str s.2.2.1) (ns.map V.str))=true↔s.2.2.2<0/\s.2.2.1∈ns:=by rw[zAv,decide_eq_true_eq,FN]
theorem Avs.split {kvs:Jd} {z:LF}:∀ {xs ys:List Cvx} {as:List (CRT.Av Str)},Avs kvs z (xs++ys) as->∃ a1 a2,as=a1++a2/\Avs kvs z xs a1/\Avs kvs z ys a2
 | [],ys,as,h=>⟨[],as,rfl,trivial,h⟩
 | x::xs,ys,[],h=>h.elim
 | x::xs,ys,a::as,⟨h,r⟩=>by
  obtain⟨a1,a2,e,h1,h2⟩:=Avs.split r;exact⟨a::a1,a2,by rw[e]; rfl,⟨h,h1⟩,h2⟩
theorem Ee {α:Type} {p:α->Bool} {l:List α} (h:∀ x∈l,¬ p x=true):l.filter p=[]:=zBS.mpr h
theorem Kv {α:Type} {p:α->Bool} {l:List α} (h:∀ x∈l,p x=true):l.filter p=l:=List.filter_eq_self.mpr h
theorem Zn {kvs:Jd} {z:LF} {F W:List Cvx} {fn wn:List Str} {S T:List Ko} (c0:0<z.ct) (hS:Ef kvs z (F++W) S) (hT:Ef kvs z F T) (lS:∀ s∈S,s.1<s.2.1) (lT:∀ s∈T,s.1<s.2.1) (hf:∀ x∈F,x.nm∈fn) (hw:∀ x∈W,x.nm∈wn) (dj:∀ n∈fn,n∉wn) :
  Y5 fn S=Y5 fn T/\∀ s∈Y5 wn S,∀ t∈T,t.2.2.2<0->¬ (t.1<s.2.1/\s.1<t.2.1):=by
 match F,hS,hT,hf with
 | [],hS,hT,_=>
  have e:T=[((0:Int),z.ct,("" : Str),(0:Int))]:=hT;refine⟨?_,fun s hs t ht h=>?_⟩
  ·have e1:Y5 fn T=[]:=by
    rw[e];refine Ee fun s hs h=>?_;rw[zAk.mp hs] at h;exact absurd (pd_iff.mp h).1 (by show ¬ (0:Int)<0; decide)
   rw[e1]
   match W,hS,hw with
   | [],hS,_=>
    have e2:S=[((0:Int),z.ct,("" : Str),(0:Int))]:=hS;rw[e2];refine Ee fun s hs h=>?_;rw[zAk.mp hs] at h;exact absurd (pd_iff.mp h).1 (by show ¬ (0:Int)<0; decide)
   | x::W,hS,hw=>
    refine Ee fun s hs h=>?_;obtain⟨k1,k2⟩:=pd_iff.mp h;rcases P0 hS s hs with ⟨_,y,hy,g2⟩ | ⟨_,g2,_⟩
    ·exact dj _ k2 (by rw[g2]; exact hw y hy)
    ·omega
  ·rw[e] at ht
   rw[zAk.mp ht] at h;exact absurd h (by show ¬ (0:Int)<0; decide)
 | x::F,⟨avs,parts,av,ch,pm,so⟩,⟨avs',parts',av',ch',pm',so'⟩,hf=>
  have f1:=CRT.frm_one c0;obtain⟨a1,a2,rfl,av1,av2⟩:=Avs.split (xs:=x::F) (ys:=W) av;obtain rfl:avs'=a1:=Sq rfl av' av1;have n1:∀ s∈CRT.paidS avs' [(0,z.ct)],s.2.2.2 = -1/\s.2.2.1∈fn:=fun s hs=>by
   obtain⟨k1,k2⟩:=CRT.paidS_key hs;rw[av1.names] at k2;obtain⟨y,hy,e⟩:=zAr.mp k2;exact⟨k1,by rw[<- e]; exact hf y hy⟩
  have n2:∀ {un:List CR.Rn},∀ s∈CRT.paidS a2 un,s.2.2.2 = -1/\s.2.2.1∈wn:=fun s hs=>by
   obtain⟨k1,k2⟩:=CRT.paidS_key hs;rw[av2.names] at k2;obtain⟨y,hy,e⟩:=zAr.mp k2;exact⟨k1,by rw[<- e]; exact hw y hy⟩
  have b1:=Zw (x:=x) (xs:=F++W) av c0 ch;have b2:=Zw av' c0 ch';have nb:∀ {ns:List Str} {l:List Ko},(∀ s∈l,0<=s.2.2.2)->l.filter (fun s=>decide (s.2.2.2<0)&&E5 (.str s.2.2.1) (ns.map V.str))=[]:=fun h=>Ee fun s hs y=>by
   have:=(pd_iff.mp y).1;have:=h s hs;omega
  have qS:(Y5 fn S).Perm (CRT.paidS avs' [(0,z.ct)]):=by
   have:=pm.filter (fun s=>decide (s.2.2.2<0)&&E5 (.str s.2.2.1) (fn.map V.str));unfold CRT.allS at this;rw[CRT.paidS_app,zBj,zBj,nb b1,Kv (l:=CRT.paidS avs' [(0,z.ct)]) fun s hs=>pd_iff.mpr ⟨by rw[(n1 s hs).1]; decide,(n1 s hs).2⟩,Ee (l:=CRT.paidS a2 _) fun s hs y=>dj _ (pd_iff.mp y).2 (n2 s hs).2,zAN,zAN] at this;exact this
  have qT:(Y5 fn T).Perm (CRT.paidS avs' [(0,z.ct)]):=by
   have:=pm'.filter (fun s=>decide (s.2.2.2<0)&&E5 (.str s.2.2.1) (fn.map V.str));unfold CRT.allS at this;rw[zBj,nb b2,Kv (l:=CRT.paidS avs' [(0,z.ct)]) fun s hs=>pd_iff.mpr ⟨by rw[(n1 s hs).1]; decide,(n1 s hs).2⟩,zAN] at this;exact this
  refine⟨Nl (fun s:Ko=>s.1) (qS.trans qT.symm) (so.sublist zBJ) (so'.sublist zBJ),fun s hs t ht k ⟨o1,o2⟩=>?_⟩;obtain⟨ms,ks⟩:=zAL.mp hs;obtain⟨k1,k2⟩:=pd_iff.mp ks;have ms':=pm.mem_iff.mp ms;have mt':=pm'.mem_iff.mp ht;unfold CRT.allS at ms' mt';rw[CRT.paidS_app] at ms';have inW:s∈CRT.paidS a2 (CRT.leftS avs' [(0,z.ct)]):=by
   rcases zAy.mp ms' with g | g
   ·rcases zAy.mp g with g | g
    ·exact absurd k2 (dj _ (n1 s g).2)
    ·exact g
   ·have:=b1 s g
    omega
  have inF:t∈CRT.paidS avs' [(0,z.ct)]:=by
   rcases zAy.mp mt' with g | g
   ·exact g
   ·have:=b2 t g
    omega
  have fl:=CRT.leftS_frm (cs:=avs') f1;have l1:=lS s ms;have l2:=lT t ht;have m1:s.1<=max s.1 t.1:=by omega
  have m2:max s.1 t.1<s.2.1:=by omega
  have m3:t.1<=max s.1 t.1:=by omega
  have m4:max s.1 t.1<t.2.1:=by omega
  have y1:=((CRT.paidS_in fl).mp ⟨s,inW,m1,m2⟩).1;have y2:=((CRT.paidS_in f1).mp ⟨t,inF,m3,m4⟩).2;rw[y1] at y2;cases y2
def dS (s:Ko):D:=.seq true [.at (.int s.1),.at (.int s.2.1),.at (.str s.2.2.1),.at (.int s.2.2.2)]
theorem Yt {K:zAa} {H:Hp}:∀ {ys:List V} {S:List Ko},Sts H ys S->Reps K H (S.map dS) ys
 | [],[],_=>by rw[zBW]; unfold Reps; rfl
 | [],_::_,h=>h.elim
 | _::_,[],h=>h.elim
 | y::ys,s::S,⟨⟨t,e,h⟩,r⟩=>by
  rw[zAH];unfold Reps;refine⟨y,ys,rfl,?_,Yt r⟩;unfold dS Qa;refine⟨t,_,e,fun _=>SqT.of h,(fun z=>by cases z),?_⟩;simp [Reps,Qa,G5,Eo]
theorem Pz:∀ S:List Ko,deps (S.map dS)<=1
 | []=>by rw[zBW]; unfold deps; lia
 | s::S=>by
  have:=Pz S;rw[zAH];unfold deps;have e:EZ (dS s)=1:=by simp [dS,EZ,deps]
  lia
theorem Sl:∀ S:List Ko,eqDs (S.map dS) (S.map dS)=true
 | []=>by rw[zBW]; unfold eqDs; rfl
 | s::S=>by
  rw[zAH];unfold eqDs;rw[Sl S];simp [dS,AQ,eqDs,Pq]
theorem Xx {K:zAa} {H:Hp} {a:Addr} {ys:List V} {S:List Ko} (h:H a=some (.lst ys)) (r:Sts H ys S):Qa K H (.seq false (S.map dS)) (.ref a):=by
 unfold Qa;exact⟨a,ys,rfl,(fun z=>by cases z),fun _=>SqL.of h,Yt r⟩
theorem Sts.snoc {H:Hp}:∀ {xs:List V} {zs:List Ko} {t:Addr} {z:Ko},Sts H xs zs->H t=some (.tup (G5 z))->Sts H (xs++[.ref t]) (zs++[z])
 | [],[],t,_,_,h=>⟨⟨t,rfl,h⟩,trivial⟩
 | [],_::_,_,_,r,_=>r.elim
 | _::_,[],_,_,r,_=>r.elim
 | x::xs,p::ps,_,_,⟨z,r⟩,h=>⟨z,Sts.snoc r h⟩
def CD:Sp:=fun vs H Q _=>∃ st nl ys S,∃ ns:List Str,vs=[.ref st,.ref nl]/\H st=some (.lst ys)/\Sts H ys S/\S.length<=900/\H nl=some (.lst (ns.map V.str))/\∀ r zs H',Same H H'->H r=none->H' r=some (.lst zs)->Sts H' zs (Y5 ns S)->Q (.ref r) H'
def Wi:Sp:=fun vs H Q _=>∃ a b xs ys,∃ S T:List Ko,vs=[.ref a,.ref b]/\H a=some (.lst xs)/\Sts H xs S/\H b=some (.lst ys)/\Sts H ys T/\(∀ s∈S,∀ t∈T,t.2.2.2<0->¬ (t.1<s.2.1/\s.1<t.2.1))/\∀ H',Same H H'->Q (.bl true) H'
section
seal L2.PS L2.PSs L2.PE L2.PA
variable {P:Program} {w:World} {K:zAa} {mg:Str->Option Value} {base:Heap}
theorem Ks:Bd ["_law_strips", "_law_some"] ["_law_strips", "_law_some"] (As Em):=⟨rfl,rfl,rfl,by decide +kernel,rfl,by decide +kernel,by decide +kernel⟩
theorem Kt {f:Addr} {fd:zCG} (F:Fun K "_law_paid_strips" "_law_paid_strips" Em f fd) (T:Txt K mg):FnOk P w K mg base Da 1 f fd ["_law_strips", "_law_some"] CD:=by
 have sc:=Ks;refine F.ok sc (fun vs H Q E h=>?_) (fun cdv A outer s H vs Q E hr h=>?_)
 ·obtain⟨_,_,_,_,_,rfl,_⟩:=h
  rfl
 obtain⟨st,nl,ys,S,ns,rfl,hst,sts,l9,hnl,q⟩:=h;refine⟨_,(Ao (Be (De (NC:=["_law_strip", "_law_some"]) (own:=["_law_strip"]) (cs:=["_law_some"]) (ix:=[1]) rfl (CompScope.of rfl) rfl ⟨⟨rfl,.inl rfl,rfl⟩,trivial⟩ (Bt (pv 0)) (fun _ _ _=>(Ay (i:=0) (show (["_law_strip", "_law_some"]:List Str).Nodup from by decide +kernel) rfl (Or.inl rfl))) (fun _ _ _=>(Fh (PW.pt (On (Bj Fk (Bh (Cs (K:=K) rfl) (pv 0) Al (fun _ _=>rfl)) Al (Bm _)) (Mp (Bj (GG (K:=K)) (Bh (Cs (K:=K) rfl) (pv 0) Al (fun _ _=>rfl)) (pv 1) rfl)))))) (fun _ _ _=>(pv 0))))),?_⟩;have ly:=sts.len;refine (vE rfl ⟨st,rfl,⟨_,SqL.of hst⟩,fun r nr=>?_⟩);refine Cb (K:=K) (a:=st) (xs:=ys) (fun i zs H2=>Sts H zs (Y5 ns (S.take i))/\zs.length<=i/\H2 r=some (.lst zs)/\Same H H2) ⟨by rw[zBG]; trivial,zAD _,Ab,An nr _⟩
  (fun i zs H2 _ ⟨_,e,h1,s2⟩=>⟨h1,e,SqL.of (s2 _ _ hst)⟩) (by rw[zCE]; lia) (fun i x zs H2 hi ⟨g,e,h1,s2⟩=>?_) (fun zs H2 ⟨g,e,h1,s2⟩=>?_)
 ·obtain⟨t,p,hp,rfl,ht⟩:=sts.get hi
  have ht2:=s2 _ _ ht;have es:=Fg (f:=fun s:Ko=>decide (s.2.2.2<0)&&E5 (.str s.2.2.1) (ns.map V.str)) hp;refine (vE rfl (vI rfl rfl (SqT.of ht2) rfl (vF rfl rfl (vE rfl ?_))));by_cases c1:p.2.2.2<0
  ·refine dT c1 (vE rfl (vI rfl rfl (SqT.of ht2) rfl (vE rfl ⟨nl,_,rfl,.inl (SqL.of (s2 _ _ hnl)),rfl,Vy _,_,rfl,?_⟩)))
   show if E5 (V.str p.2.2.1) (ns.map V.str)=true then _ else _;cases c2:E5 (V.str p.2.2.1) (ns.map V.str) with
   | true=>
    refine Kn (vE rfl ⟨h1,rfl,?_,by rw[zAo]; exact Nat.add_le_add_right e 1,Ab,Ed nr s2⟩);unfold Y5;rw[es,if_pos (by rw[decide_eq_true c1,c2]; rfl)];exact g.snoc ht
   | false=>
    refine Dq ⟨rfl,?_,by lia,h1,s2⟩;unfold Y5;rw[es,if_neg (by rw[c2,zBY]; exact zAm),zAN];exact g
  ·refine dF c1 (Dq ⟨rfl,?_,by lia,h1,s2⟩)
   unfold Y5;rw[es,if_neg (by rw[decide_eq_false c1,zCs]; exact zAm),zAN];exact g
 rw[ly,zAA] at g;exact q r zs H2 s2 nr h1 (g.mono (Bo s2))
theorem Tk:Bd ["_law_strips", "_law_others", "_law_lo", "_law_hi", "_law_name", "_law_k", "_law_first", "_law_upto", "_law_who", "_law_at"] ["_law_strips", "_law_others"] (As Ig):=⟨rfl,rfl,rfl,by decide +kernel,rfl,by decide +kernel,by decide +kernel⟩
theorem Uo {f:Addr} {fd:zCG} (F:Fun K "_law_apart" "_law_apart" Ig f fd) (T:Txt K mg):FnOk P w K mg base Da 1 f fd ["_law_strips", "_law_others"] Wi:=by
 have sc:=Tk;refine F.ok sc (fun vs H Q E h=>?_) (fun cdv A outer s H vs Q E hr h=>?_)
 ·obtain⟨_,_,_,_,_,_,rfl,_⟩:=h
  rfl
 obtain⟨a,b,xs,ys,S,T',rfl,ha,sa,hb,sb,ap,q⟩:=h;refine⟨_,(Ae (Ck PassesOwn.never rfl (Bt (pv 0)) (Ea (n:=4) rfl (Bk (Ay (i:=2) sc.nd rfl (Or.inl rfl)) (Bk (Ay (i:=3) sc.nd rfl (Or.inl rfl)) (Bk (Ay (i:=4) sc.nd rfl (Or.inl rfl)) (Bk (Ay (i:=5) sc.nd rfl (Or.inl rfl)) Dh)))))
    (Ao (Ck PassesOwn.never rfl (Bt (pv 1)) (Ea (n:=4) rfl (Bk (Ay (i:=6) sc.nd rfl (Or.inl rfl)) (Bk (Ay (i:=7) sc.nd rfl (Or.inl rfl)) (Bk (Ay (i:=8) sc.nd rfl (Or.inl rfl)) (Bk (Ay (i:=9) sc.nd rfl (Or.inl rfl)) Dh)))))
    (Ao (Bw (PW.pt (On (Bj Fk (pv 9) Al (Bm _)) (On (Bj Fk (pv 6) (pv 3) (Bm _)) (Mp (Bj Fk (pv 2) (pv 7) (Bm _))))))
    (Ao (Be Eg))
    Bl)))))
   (Ao (Be Eg))),?_⟩
 refine (vE rfl ⟨a,rfl,⟨_,SqL.of ha⟩,?_⟩);refine Db (K:=K) (a:=a) (xs:=xs) (fun i σ H2=>(∃ o2 o3 o4 o5 o6 o7 o8 o9,σ=[some (.ref a),some (.ref b),o2,o3,o4,o5,o6,o7,o8,o9])/\H2=H) ⟨⟨none,none,none,none,none,none,none,none,rfl⟩,rfl⟩ (fun i σ H2 _ hh=>by rw[hh.2]; exact SqL.of ha) ?_ ?_
 ·rintro i x σ H2 hi ⟨⟨o2,o3,o4,o5,o6,o7,o8,o9,rfl⟩,rfl⟩
  obtain⟨t,p,hp,rfl,ht⟩:=sa.get hi;refine⟨t,_,rfl,SqT.of ht,rfl,_,_,rfl,_,_,rfl,_,_,rfl,_,_,rfl,rfl,?_⟩;refine GI [some (.ref a),some (.ref b),some (.int p.1),some (.int p.2.1),some (.str p.2.2.1),some (.int p.2.2.2),o6,o7,o8,o9] rfl ?_;refine (vE rfl ⟨b,rfl,⟨_,SqL.of hb⟩,?_⟩);refine Db (K:=K) (a:=b) (xs:=ys) (fun j σ H3=>(∃ o6 o7 o8 o9,σ=[some (.ref a),some (.ref b),some (.int p.1),some (.int p.2.1),some (.str p.2.2.1),some (.int p.2.2.2),o6,o7,o8,o9])/\H3=H2) ⟨⟨o6,o7,o8,o9,rfl⟩,rfl⟩ (fun j σ H3 _ hh=>by rw[hh.2]; exact SqL.of hb) ?_ ?_
  ·rintro j y σ H3 hj ⟨⟨o6,o7,o8,o9,rfl⟩,rfl⟩
   obtain⟨t',p',hp',rfl,ht'⟩:=sb.get hj;refine⟨t',_,rfl,SqT.of ht',rfl,_,_,rfl,_,_,rfl,_,_,rfl,_,_,rfl,rfl,?_⟩;refine GI [some (.ref a),some (.ref b),some (.int p.1),some (.int p.2.1),some (.str p.2.2.1),some (.int p.2.2.2),some (.int p'.1),some (.int p'.2.1),some (.str p'.2.2.1),some (.int p'.2.2.2)] rfl ?_;have no:=ap p (zAE hp) p' (zAE hp');refine (vE rfl (vF rfl rfl (vE rfl ?_)));by_cases c1:p'.2.2.2<0
   ·refine dT c1 (vE rfl (vE rfl (vF rfl rfl (vE rfl ?_))))
    by_cases c2:p'.1<p.2.1
    ·exact dT c2 (vE rfl (vE rfl (vF rfl rfl (vE rfl (dF (fun c3=>no c1 ⟨c2,c3⟩) ⟨⟨_,_,_,_,rfl⟩,rfl⟩)))))
    ·exact dF c2 (Dq ⟨⟨_,_,_,_,rfl⟩,rfl⟩)
   ·exact dF c1 (Dq ⟨⟨_,_,_,_,rfl⟩,rfl⟩)
  ·rintro σ H3 ⟨⟨o6,o7,o8,o9,rfl⟩,rfl⟩
   exact⟨⟨_,_,_,_,_,_,_,_,rfl⟩,rfl⟩
 ·rintro σ H2 ⟨⟨o2,o3,o4,o5,o6,o7,o8,o9,rfl⟩,rfl⟩
  exact q _ (Same.refl _)
end
theorem X4 {xs:List Cvx}:Ly (xs.filter fun x => !x.wt)=xs.filter fun x => !x.wt:=by
 unfold Ly;rw[zBC,zBC];have e1:xs.filter (fun x=>x.wt && !x.wt)=[]:=zBS.mpr fun x _=>by cases x.wt <;> simp
 have e2:(fun x:Cvx => !x.wt && !x.wt)=fun x => !x.wt:=by funext x; cases x.wt <;> rfl
 rw[e1,e2,zAN]
theorem Y3 {xs:List Cvx}:Ly (xs.filter (fun x=>x.wt)++xs.filter fun x => !x.wt)=Ly xs:=by
 unfold Ly;rw[zBj,zBj,zBC,zBC,zBC,zBC];have e1:xs.filter (fun x => !x.wt&&x.wt)=[]:=zBS.mpr fun x _=>by cases x.wt <;> simp
 have e2:xs.filter (fun x=>x.wt && !x.wt)=[]:=zBS.mpr fun x _=>by cases x.wt <;> simp
 have e3:(fun x:Cvx => !x.wt && !x.wt)=fun x => !x.wt:=by funext x; cases x.wt <;> rfl
 have e4:(fun x:Cvx=>x.wt&&x.wt)=fun x=>x.wt:=by funext x; cases x.wt <;> rfl
 rw[e1,e2,e3,e4,List.nil_append,zAN]
section
variable {P:Program} {w:World} {K:zAa} {mg:Str->Option Value} {base:Heap} {Ac Ag Ah Am Au Bb Ba At Ad Aw Ak Aj Bg Ai Az Aq:Addr}
theorem IQ:Bd ["_law_script", "_law_unit_here", "_law_world_here", "_law_covers_here", "_law_name", "_law_cond_here", "_law_clauses", "_law_houses", "_law_waits", "_law_firm", "_law_waiting", "_law_books", "_law_made", "_law_some", "_law_others", "_law_losses_here", "_law_j", "_law_loss_here", "_law_counts_here", "_law_strips", "_law_alone"] ["_law_script"] (As Qv):=⟨rfl,rfl,rfl,by decide +kernel,rfl,by decide +kernel,by decide +kernel⟩
theorem IU {f:Addr} {fd:zCG} (F:Fun K "law" "law" Qv f fd) (T:Txt K mg) (L:Kl K mg Ac Ag Ah Am Au Bb Ba At Ad Aw Ak Aj Bg Ai Az Aq) (C_law_cell:Cq P w K mg base 1 "_law_cell" ["_law_script", "_law_k"] (Nu K)) (C_law_unit:Cq P w K mg base 2 "_law_unit" ["_law_script"] (J3 K)) (C_law_world:Cq P w K mg base 2 "_law_world" ["_law_script", "_law_most"] (Xj K))
  (C_law_covers:Cq P w K mg base 3 "_law_covers" ["_law_script", "_law_names_here", "_law_things", "_law_causes", "_law_unit_here"] (N8 K)) (C_law_book:Cq P w K mg base 8 "_law_book" ["_law_covers_here"] (Xy (A8.mk Ac Ag Ah Am Au Bb Ba At) Ad Aw Ak Aj Ai Az)) (C_law_losses:Cq P w K mg base 2 "_law_losses" ["_law_script", "_law_many", "_law_world_here", "_law_unit_here"] (Tf K))
  (C_law_state:Cq P w K mg base 2 "_law_state" ["_law_covers_here", "_law_loss_here", "_law_cell_here", "_law_unit_here"] Wm) (C_law_counts:Cq P w K mg base 3 "_law_counts" ["_law_had_of"] (G7 Aq)) (Cstrips_of:Cq P w K mg base 7 "strips_of" ["book", "counts", "loss"] (Rt (A8.mk Ac Ag Ah Am Au Bb Ba At) Ad Aw Ak Aj Ai Az Aq)) (C_law_form:Cq P w K mg base 2 "_law_form" ["_law_strips", "_law_cents"] M4)
  (C_law_paid_strips:Cq P w K mg base 1 "_law_paid_strips" ["_law_strips", "_law_some"] CD) (C_law_apart:Cq P w K mg base 1 "_law_apart" ["_law_strips", "_law_others"] Wi) (KBook:Ej P w K mg base 1 "Book" Az ["self", "covers"] (Yf Ai Az)) :
  FnOk P w K mg base Da 9 f fd ["_law_script"] (V2 K):=by
 have sc:=IQ;refine F.ok sc (fun vs H Q E h=>?_) (fun cdv A outer s H vs Q E hr h=>?_)
 ·obtain⟨_,_,rfl,_⟩:=h
  rfl
 have hu64:=P8 hr;have hu2:=V1 hr;obtain⟨a,ns,rfl,ha,l63,q⟩:=h;refine⟨_,(Ae (Bf (i:=1) sc.nd rfl (Or.inl rfl) (Ax C_law_unit (hr.mono (by decide)) rfl (Aa (pv 0) Af)))
   (Ae (Bf (i:=2) sc.nd rfl (Or.inl rfl) (Ax C_law_world (hr.mono (by decide)) rfl (Aa (pv 0) (Aa Al Af))))
   (Ae (Bf (i:=3) sc.nd rfl (Or.inr rfl) (Ci Af))
   (Ae (Ck PassesOwn.never rfl (Bt (Ax C_law_covers (hr.mono (by decide)) rfl (Aa (pv 0) (Aa (Bh Bp (pv 2) Al (fun _ _=>rfl)) (Aa (Bh Bp (pv 2) Al (fun _ _=>rfl)) (Aa (Bh Bp (pv 2) Al (fun _ _=>rfl)) (Aa (pv 1) Af))))))) (Ea (n:=5) rfl (Bk (Ay (i:=4) sc.nd rfl (Or.inl rfl)) (Bk (Ay (i:=5) sc.nd rfl (Or.inl rfl)) (Bk (Ay (i:=6) sc.nd rfl (Or.inl rfl)) (Bk (Ay (i:=7) sc.nd rfl (Or.inl rfl)) (Bk (Ay (i:=8) sc.nd rfl (Or.inl rfl)) Dh))))))
    (Ao (Cr (Gk PySem.F.plainAttrs_list PySem.F.slot_list_append PySem.F.type_list_append Do (pv 3) (Aa (Cd (Aa (pv 4) (Aa (pv 5) (Aa (pv 6) (Aa (pv 7) (Aa (Ga Di (Bc Bx (Ax C_law_cell (hr.mono (by decide)) rfl (Aa (pv 0) (Aa (Bn Cc rfl T.n_len (show zCF _=some (.builtin "len") from rfl) (Aa (pv 3) Af)) Af))) Al) Al (Bm _)) Af)))))) Af)))))
   (Ae (Fa (NC:=["_law_cover"]) (own:=["_law_cover"]) (cs:=[]) (ix:=[]) (j:=9) sc.nd rfl rfl rfl (CompScope.of rfl) rfl trivial (Bt (pv 3)) (fun _ _ _=>(Ay (i:=0) (show (["_law_cover"]:List Str).Nodup from by decide +kernel) rfl (Or.inl rfl))) (fun _ _ _=>(Fh (Dc (Cn (Bh (Cs (K:=K) rfl) (pv 0) Al (fun _ _=>rfl)))))) (fun _ _ _=>(pv 0)))
   (Ae (Fa (NC:=["_law_cover"]) (own:=["_law_cover"]) (cs:=[]) (ix:=[]) (j:=10) sc.nd rfl rfl rfl (CompScope.of rfl) rfl trivial (Bt (pv 3)) (fun _ _ _=>(Ay (i:=0) (show (["_law_cover"]:List Str).Nodup from by decide +kernel) rfl (Or.inl rfl))) (fun _ _ _=>(Fh (Cn (Bh (Cs (K:=K) rfl) (pv 0) Al (fun _ _=>rfl))))) (fun _ _ _=>(pv 0)))
   (Ae (Bf (i:=11) sc.nd rfl (Or.inl rfl) (Ci (Aa (Ax C_law_book (hr.mono (by decide)) rfl (Aa (pv 3) Af)) Af)))
   (Ae (Bf (i:=12) sc.nd rfl (Or.inr rfl) (Cp (Bh Bp (pv 11) Al (fun _ _=>rfl)) rfl))
   (Ae (Fa (NC:=["_law_c", "_law_made", "_law_covers_here"]) (own:=["_law_c"]) (cs:=["_law_made", "_law_covers_here"]) (ix:=[12,3]) (j:=13) sc.nd rfl rfl rfl (CompScope.of rfl) rfl ⟨⟨rfl,.inl rfl,rfl⟩,⟨⟨rfl,.inl rfl,rfl⟩,trivial⟩⟩ (Cz rfl T.n_range (Aa (Bn Cc rfl T.n_len (show zCF _=some (.builtin "len") from rfl) (Aa (pv 3) Af)) Af)) (fun _ _ _=>(Ay (i:=0) (show (["_law_c", "_law_made", "_law_covers_here"]:List Str).Nodup from by decide +kernel) rfl (Or.inl rfl))) (fun _ _ _=>(Fh (Dc (Cn (Bh (Cs (K:=K) rfl) (Bh (Gu (K:=K) rfl) (pv 2) (pv 0) (fun _ _=>rfl)) Al (fun _ _=>rfl)))))) (fun _ _ _=>(Bh (Gu (K:=K) rfl) (pv 1) (pv 0) (fun _ _=>rfl))))
   (Ae (Bf (i:=11) sc.nd rfl (Or.inl rfl) (Bc Kb (pv 11) (Ci (Aa (Dd KBook (hr.mono (by decide)) rfl (Aa (pv 13) Af)) (Aa (Dd KBook (hr.mono (by decide)) rfl (Aa (Bc Kb (De (NC:=["_law_c", "_law_made", "_law_covers_here"]) (own:=["_law_c"]) (cs:=["_law_made", "_law_covers_here"]) (ix:=[12,3]) rfl (CompScope.of rfl) rfl ⟨⟨rfl,.inl rfl,rfl⟩,⟨⟨rfl,.inl rfl,rfl⟩,trivial⟩⟩ (Cz rfl T.n_range (Aa (Bn Cc rfl T.n_len (show zCF _=some (.builtin "len") from rfl) (Aa (pv 3) Af)) Af)) (fun _ _ _=>(Ay (i:=0) (show (["_law_c", "_law_made", "_law_covers_here"]:List Str).Nodup from by decide +kernel) rfl (Or.inl rfl))) (fun _ _ _=>(Fh (Cn (Bh (Cs (K:=K) rfl) (Bh (Gu (K:=K) rfl) (pv 2) (pv 0) (fun _ _=>rfl)) Al (fun _ _=>rfl))))) (fun _ _ _=>(Bh (Gu (K:=K) rfl) (pv 1) (pv 0) (fun _ _=>rfl)))) (pv 13)) Af)) Af)))))
   (Ae (Fa (NC:=["_law_cover"]) (own:=["_law_cover"]) (cs:=[]) (ix:=[]) (j:=13) sc.nd rfl rfl rfl (CompScope.of rfl) rfl trivial (Bt (pv 9)) (fun _ _ _=>(Ay (i:=0) (show (["_law_cover"]:List Str).Nodup from by decide +kernel) rfl (Or.inl rfl))) (fun _ _ _=>Cu) (fun _ _ _=>(Bh (Cs (K:=K) rfl) (pv 0) Al (fun _ _=>rfl))))
   (Ae (Fa (NC:=["_law_cover"]) (own:=["_law_cover"]) (cs:=[]) (ix:=[]) (j:=14) sc.nd rfl rfl rfl (CompScope.of rfl) rfl trivial (Bt (pv 10)) (fun _ _ _=>(Ay (i:=0) (show (["_law_cover"]:List Str).Nodup from by decide +kernel) rfl (Or.inl rfl))) (fun _ _ _=>Cu) (fun _ _ _=>(Bh (Cs (K:=K) rfl) (pv 0) Al (fun _ _=>rfl))))
   (Ae (Bf (i:=15) sc.nd rfl (Or.inl rfl) (Ax C_law_losses (hr.mono (by decide)) rfl (Aa (pv 0) (Aa Al (Aa (pv 2) (Aa (pv 1) Af))))))
   (Ae (Ck PassesOwn.never rfl (Cz rfl T.n_range (Aa (Bn Cc rfl T.n_len (show zCF _=some (.builtin "len") from rfl) (Aa (pv 15) Af)) Af)) (Ay (i:=16) sc.nd rfl (Or.inl rfl))
    (Ae (Bf (i:=17) sc.nd rfl (Or.inl rfl) (Bh Bp (pv 15) (pv 16) (fun _ _=>rfl)))
   (Ae (Bf (i:=18) sc.nd rfl (Or.inl rfl) (Ax C_law_counts (hr.mono (by decide)) rfl (Aa (Ax C_law_state (hr.mono (by decide)) rfl (Aa (pv 3) (Aa (pv 17) (Aa (Ax C_law_cell (hr.mono (by decide)) rfl (Aa (pv 0) (Aa (pv 16) Af))) (Aa (pv 1) Af))))) Af)))
   (Ae (Bf (i:=19) sc.nd rfl (Or.inl rfl) (Ax Cstrips_of (hr.mono (by decide)) rfl (Aa (Bh Bp (pv 11) Al (fun _ _=>rfl)) (Aa (pv 18) (Aa (pv 17) Af)))))
   (Ae (Bf (i:=20) sc.nd rfl (Or.inl rfl) (Ax Cstrips_of (hr.mono (by decide)) rfl (Aa (Bh Bp (pv 11) Al (fun _ _=>rfl)) (Aa (pv 18) (Aa (pv 17) Af)))))
   (Ae (Bw (PW.pt (Gv (Dc (Cn (Ax C_law_form (hr.mono (by decide)) rfl (Aa (pv 19) (Aa (Bh Bq (pv 17) Al (fun _ _=>rfl)) Af))))) (Ft (Dc (Cn (Ax C_law_form (hr.mono (by decide)) rfl (Aa (pv 20) (Aa (Bh Bq (pv 17) Al (fun _ _=>rfl)) Af))))))))
    (Ao (Be Eg))
    Bl)
   (Ae (Bw (Bj (CH (K:=K) hu64) (Ax C_law_paid_strips (hr.mono (by decide)) rfl (Aa (pv 19) (Aa (pv 13) Af))) (Ax C_law_paid_strips (hr.mono (by decide)) rfl (Aa (pv 20) (Aa (pv 13) Af))) (Bm _))
    (Ao (Be Eg))
    Bl)
   (Ao (Bw (PW.pt (Gv (Dc (Cn (Ax C_law_apart (hr.mono (by decide)) rfl (Aa (Ax C_law_paid_strips (hr.mono (by decide)) rfl (Aa (pv 19) (Aa (pv 14) Af))) (Aa (pv 20) Af))))) (Ft (Bj (CH (K:=K) hu64) (Ax Cstrips_of (hr.mono (by decide)) rfl (Aa (Bh Bp (pv 11) Al (fun _ _=>rfl)) (Aa (pv 18) (Aa (pv 17) Af)))) (pv 19) (Bm _)))))
    (Ao (Be Eg))
    Bl)))))))))
   (Ao (Be Eg)))))))))))))))),?_⟩
 have one:1<=sizeLine:=by rw[zCE]; decide
 refine (vE rfl ⟨a,ns,rfl,ha,l63,fun u H1 s1 uo=>?_⟩);refine Dr ([some (.ref a),some (.int u)]++zAz 19 none) rfl ?_;refine (vE rfl ⟨a,ns,rfl,s1.seq ha,l63,fun wl A B C D H2 s2 wa W=>?_⟩);refine Dr ([some (.ref a),some (.int u),some (.ref wl)]++zAz 18 none) rfl ?_;obtain⟨la,lb,lc,ld,hw,hwa,hwb,hwc,hwd⟩:=id wa;refine⟨zAD _,fun sl nsl=>?_⟩;have s3:=An nsl (.lst []);have h3:upd H2 sl (.lst []) sl=some (.lst []):=Ab;generalize upd H2 sl (.lst [])=H3 at s3 h3;refine Dr ([some (.ref a),some (.int u),some (.ref wl),some (.ref sl)]++zAz 17 none) rfl ?_;have S3:=s1.trans (s2.trans s3);refine (vE rfl (vE rfl (vI rfl rfl (SqL.of (s3 _ _ hw)) rfl (vE rfl (vI rfl rfl (SqL.of (s3 _ _ hw)) rfl (vE rfl (vI rfl rfl (SqL.of (s3 _ _ hw)) rfl (vE rfl ⟨a,ns,ld,lb,lc,u,B,C,D,rfl,S3.seq ha,l63,uo,s3 _ _ hwd,s3 _ _ hwb,s3 _ _ hwc,W.lb,W.lc,fun z hz=>II (W.b.ok z hz).1,fun z hz=>II (W.c.ok z hz).1,W.ld,fun cl rows0 H4 s4 ncl hrows0 all0 enm0=>?_⟩))))))));have h4:=s4 _ _ h3;have ha4:SqL K H4 a (ns.map V.int):=(S3.trans s4).seq ha;have wa4:=wa.same (s3.trans s4);have nsc:sl≠cl:=Ap h3 ncl;have fsl:H2 sl=none:=nsl;have ha2:SqL K H2 a (ns.map V.int):=(s1.trans s2).seq ha;have lr0:rows0.length<=5:=by
  have:=W.ld;rw[<- enm0,zAb] at this;exact this
 have b3:∀ {b:Addr},H3 b=none->b≠sl:=fun e z=>by rw[z,h3] at e; cases e
 refine⟨cl,rfl,⟨_,SqL.of hrows0⟩,?_⟩;refine Db (K:=K) (a:=cl) (xs:=rows0.map Kz) (fun i σ H5=>(∃ o4 o5 o6 o7 o8,σ=[some (.ref a),some (.int u),some (.ref wl),some (.ref sl),o4,o5,o6,o7,o8]++zAz 12 none)/\(∃ rows:List Rwc,H5 sl=some (.lst (rows.map Kz))/\(∀ x∈rows,RwcAt (Off sl H5) x/\Os x)/\rows.map (·.nm)=(rows0.take i).map (·.nm))/\∀ b o,H4 b=some o->b≠sl->H5 b=some o)
  ⟨⟨none,none,none,none,none,rfl⟩,⟨[],h4,(fun x hx=>nomatch hx),by rw[zBG]⟩,fun _ _ y _=>y⟩ (fun i σ H5 _ hh=>SqL.of (hh.2.2 _ _ hrows0 nsc.symm)) ?_ ?_
 ·rintro i x σ H5 hi ⟨⟨o4,o5,o6,o7,o8,rfl⟩,⟨rows,hrows,okr,enm⟩,k5⟩
  rw[zAs] at hi;obtain⟨r,hx,rfl⟩:=zAJ.mp hi;have il:i<rows0.length:=(zAi.mp hx).1;obtain⟨rat0,rok⟩:=all0 r (zAE hx);have rat:=rat0.same (H':=Off sl H5) fun b o y=>Off.of (b3 (Nw.at y).1) (k5 _ _ (Nw.at y).2 (b3 (Nw.at y).1));obtain⟨tv,kl,hl',ht',cs,g1,g2,g3,g4,g5,g6⟩:=rat;have g15:=(Off.at g1).2;have s25:Same H2 H5:=fun b o y=>k5 _ _ (s4 _ _ (s3 _ _ y)) (Ap y nsl);have lrows:rows.length=i:=by
   have:=congrArg List.length enm;rw[zAb,zAb,zAx] at this
   lia
  have lm:(rows.map Kz).length=rows.length:=zAb _;refine⟨r.p,_,rfl,SqT.of g15,rfl,_,_,rfl,_,_,rfl,_,_,rfl,_,_,rfl,_,_,rfl,rfl,?_⟩;refine GI ([some (.ref a),some (.int u),some (.ref wl),some (.ref sl),some (.str r.nm),some tv,some (.ref kl),some (.ref hl'),some (.bl r.wt)]++zAz 12 none) rfl ?_;refine (vE rfl ⟨.inl ⟨rfl,_,SqL.of hrows⟩,vE rfl (vE rfl (vE rfl (vE rfl (vE rfl (vE rfl ⟨sl,_,rfl,.inl (SqL.of hrows),a,ns,_,rfl,s25.seq ha2,by lia,l63,vF rfl rfl ⟨(by show (0:Int)<2; decide),rfl,Cf (by show 5<=1000; decide),fun tp ntp=>?_⟩⟩)))))⟩);generalize decide (V.int (ns.getD ((((rows.map Kz).length:Nat):Int)).toNat 0%2)=V.int 1)=wb;have s6:=An ntp (.tup [V.str r.nm,tv,.ref kl,.ref hl',.bl wb]);have h6:upd H5 tp (.tup [V.str r.nm,tv,.ref kl,.ref hl',.bl wb]) tp=some (.tup [V.str r.nm,tv,.ref kl,.ref hl',.bl wb]):=Ab;have ntps:tp≠sl:=(Ap hrows ntp).symm;generalize upd H5 tp (.tup [V.str r.nm,tv,.ref kl,.ref hl',.bl wb])=H6 at s6 h6;have hrows6:=s6 _ _ hrows;refine⟨sl,_,_,rfl,rfl,hrows6,by rw[lm,zCE]; lia,?_⟩;have eapp:rows.map Kz++[V.ref tp]=(rows++[Rwc.mk tp r.nm r.t r.rs wb]).map Kz:=by rw[zAq]; rfl
  rw[eapp];have up:Same (Off sl H5) (Off sl (upd H6 sl (.lst ((rows++[Rwc.mk tp r.nm r.t r.rs wb]).map Kz)))):=fun b o y=>Off.of (Off.at y).1 (by rw[Ar (Off.at y).1]; exact s6 _ _ (Off.at y).2);refine⟨⟨_,_,_,_,_,rfl⟩,⟨_,Ab,fun x hx'=>?_,?_⟩,fun b o y n=>by rw[Ar n]; exact s6 _ _ (k5 b o y n)⟩
  ·rcases zAy.mp hx' with g | g
   ·exact⟨(okr x g).1.same up,(okr x g).2⟩
   ·rw[zAk.mp g]
    exact⟨⟨tv,kl,hl',ht',cs,Off.of ntps (by rw[Ar ntps]; exact h6),TrAt.same up _ g2,up _ _ g3,g4.mono (Bo up),up _ _ g5,up _ _ g6⟩,⟨rok.hg,rok.ok,rok.l3,rok.oc⟩⟩
  ·rw[zAq,enm,Bu hx,zAq]
   rfl
 ·rintro σ H5 ⟨⟨o4,o5,o6,o7,o8,rfl⟩,⟨rows,hrows,okr,enm⟩,k5⟩
  rw[zAb,zAA,enm0] at enm;have all:∀ x∈rows,RwcAt H5 x/\Os x:=fun x hx=>⟨(okr x hx).1.same fun b o y=>(Off.at y).2,(okr x hx).2⟩;have s25:Same H2 H5:=fun b o y=>k5 _ _ (s4 _ _ (s3 _ _ y)) (Ap y nsl);have wa5:=wa.same s25;have ha5:=s25.seq ha2;have lrows:rows.length<=5:=by
   have:=W.ld;rw[<- enm,zAb] at this;exact this
  have lm:(rows.map Kz).length=rows.length:=zAb _;clear okr k5 all0 hrows0 enm0 s25 hw hwa hwb hwc hwd wa wa4 ha4 h4 s4 s3 S3 s1 s2 nsc b3 h3;have filt:∀ (b:Bool) {H':Hp} {fl:Addr},Same H5 H'->True:=fun _ _ _ _=>trivial;refine (vE rfl ⟨sl,rfl,⟨_,SqL.of hrows⟩,fun fi nfi=>?_⟩);refine Cb (K:=K) (a:=sl) (xs:=rows.map Kz) (fun i ys H2=>ys=((rows.take i).filter fun r => !r.wt).map Kz/\H2 fi=some (.lst ys)/\Same H5 H2) ⟨rfl,Ab,An nfi _⟩
   (fun i ys H2 _ ⟨e,h1,s2⟩=>⟨h1,by rw[e,zAb]; exact zAG (zAI _ _) (by rw[zAx]; lia),SqL.of (s2 _ _ hrows)⟩) (by rw[zCE]; lia) (fun i x ys H2 hi ⟨e,h1,s2⟩=>?_) (fun ys H6 ⟨e,hfi,s6⟩=>?_)
  ·rw[zAs] at hi
   obtain⟨r,hx,rfl⟩:=zAJ.mp hi;obtain⟨⟨tv,kl,hl',ht',cs,g1,_⟩,_⟩:=all r (zAE hx);have es:=Fg (f:=fun r:Rwc => !r.wt) hx;refine (vE rfl (vI rfl rfl (SqT.of (s2 _ _ g1)) rfl (vE rfl ?_)));cases cw:r.wt with
   | true=>
    refine Dq ⟨rfl,?_,h1,s2⟩;rw[es,e,cw];simp
   | false=>
    refine Kn (vE rfl ⟨h1,rfl,?_,Ab,Ed nfi s2⟩);rw[es,e,cw];simp [Kz]
  rw[lm,zAA] at e;subst e;refine Dr ([some (.ref a),some (.int u),some (.ref wl),some (.ref sl),o4,o5,o6,o7,o8,some (.ref fi)]++zAz 11 none) rfl ?_;have hrows6:=s6 _ _ hrows;refine (vE rfl ⟨sl,rfl,⟨_,SqL.of hrows6⟩,fun wa' nwa=>?_⟩);refine Cb (K:=K) (a:=sl) (xs:=rows.map Kz) (fun i ys H2=>ys=((rows.take i).filter fun r=>r.wt).map Kz/\H2 wa'=some (.lst ys)/\Same H6 H2) ⟨rfl,Ab,An nwa _⟩
   (fun i ys H2 _ ⟨e,h1,s2⟩=>⟨h1,by rw[e,zAb]; exact zAG (zAI _ _) (by rw[zAx]; lia),SqL.of (s2 _ _ hrows6)⟩) (by rw[zCE]; lia) (fun i x ys H2 hi ⟨e,h1,s2⟩=>?_) (fun ys H7 ⟨e,hwt,s7⟩=>?_)
  ·rw[zAs] at hi
   obtain⟨r,hx,rfl⟩:=zAJ.mp hi;obtain⟨⟨tv,kl,hl',ht',cs,g1,_⟩,_⟩:=all r (zAE hx);have es:=Fg (f:=fun r:Rwc=>r.wt) hx;refine (vE rfl (vI rfl rfl (SqT.of (s2 _ _ (s6 _ _ g1))) rfl (vE rfl ?_)));cases cw:r.wt with
   | false=>
    refine Dq ⟨rfl,?_,h1,s2⟩;rw[es,e,cw];simp
   | true=>
    refine Kn (vE rfl ⟨h1,rfl,?_,Ab,Ed nwa s2⟩);rw[es,e,cw];simp [Kz]
  rw[lm,zAA] at e;subst e;refine Dr ([some (.ref a),some (.int u),some (.ref wl),some (.ref sl),o4,o5,o6,o7,o8,some (.ref fi),some (.ref wa')]++zAz 10 none) rfl ?_;have S7:=s6.trans s7;have hrows7:=S7 _ _ hrows;refine (vE rfl ⟨sl,rows,rfl,hrows7,fun x hx=>⟨(all x hx).1.same S7,(all x hx).2⟩,by rw[enm]; exact W.d,fun bk bcl bak cvs H8 s8 B8 cv8 eun=>⟨one,fun bl nbl=>?_⟩⟩);have s9:=An nbl (.lst [V.ref bk]);have h9:upd H8 bl (.lst [V.ref bk]) bl=some (.lst [V.ref bk]):=Ab;generalize upd H8 bl (.lst [V.ref bk])=H9 at s9 h9;refine Dr ([some (.ref a),some (.int u),some (.ref wl),some (.ref sl),o4,o5,o6,o7,o8,some (.ref fi),some (.ref wa'),some (.ref bl)]++zAz 9 none) rfl ?_;have S9:=S7.trans (s8.trans s9);have B9:=B8.same s9;have cv9:∀ x∈cvs,CvxAt (A8.mk Ac Ag Ah Am Au Bb Ba At) Ad Aw Ak Aj Ai H9 x:=fun x hx=>(cv8 x hx).1.same s9;obtain⟨⟨d1,gs,hek,k1,k2,k3⟩,hecl,heak⟩:=id B9;have ecv:(cvs.map EY).map Qc=cvs.map xV:=by rw[zBb]; rfl
  rw[ecv] at hecl;have hrows9:=S9 _ _ hrows;have all9:∀ x∈rows,RwcAt H9 x/\Os x:=fun x hx=>⟨(all x hx).1.same S9,(all x hx).2⟩;have lcv:cvs.length=rows.length:=by
   have:=congrArg List.length eun
   rwa [zAb,zAb,zAb] at this
  have enmc:cvs.map (·.nm)=rows.map (·.nm):=by
   have:=congrArg (List.map (fun y:Str×Gw×List Cl×Bool=>y.1)) eun;rw[zBb,zBb,zBb] at this;exact this
  have nd:(cvs.map (·.nm)).Nodup:=by rw[enmc,enm]; exact W.d.nd
  refine (vE rfl (vI rfl rfl (SqL.of h9) rfl ⟨bk,Az,d1,gs,_,rfl,hek,L.cl_Book,L.na_Book_covers,k1,?_⟩));refine Dr ([some (.ref a),some (.int u),some (.ref wl),some (.ref sl),o4,o5,o6,o7,o8,some (.ref fi),some (.ref wa'),some (.ref bl),some (.ref bcl)]++zAz 8 none) rfl ?_;have at_i:∀ {i:Nat},i<rows.length->∃ r c,rows[i]?=some r/\cvs[i]?=some c/\c.wt=r.wt/\Nf (rows.map Kz) (0+(i:Int))=some (.ref r.p)/\Nf (cvs.map xV) (0+(i:Int))=some (.ref c.p):=fun {i} hi=>by
   have er:rows[i]?=some rows[i]:=zAe hi;have ec:cvs[i]?=some (cvs[i]'(by lia)):=zAe _;refine⟨_,_,er,ec,?_,?_,?_⟩
   ·have:=congrArg (fun l:List (Str×Gw×List Cl×Bool)=>l[i]?) eun
    simp only [zAs,ec,er] at this;exact congrArg (·.2.2.2) (Option.some.inj this)
   ·rw[show (0+(i:Int))=(i:Int) by lia]
    exact Ey (by rw[zAs,er]; rfl)
   ·rw[show (0+(i:Int))=(i:Int) by lia]
    exact Ey (by rw[zAs,ec]; rfl)
  refine (vE rfl ⟨sl,_,rfl,.inl (SqL.of hrows9),vE rfl ⟨by rw[lm]; lia,by rw[lm]; lia,fun so nso=>?_⟩⟩);rw[show (((rows.map Kz).length:Int)).toNat=rows.length by rw[lm]; lia];refine Go (lo:=0) (n:=rows.length) (fun i ys H2=>ys=((cvs.take i).filter fun x => !x.wt).map xV/\H2 so=some (.lst ys)/\Same H9 H2) ⟨rfl,Ab,An nso _⟩
   (fun i ys H2 hi ⟨e,h1,s2⟩=>⟨h1,by rw[e,zAb]; exact zAG (zAI _ _) (by rw[zAx]; lia)⟩) (by rw[zCE]; lia) (fun i ys H2 hi ⟨e,h1,s2⟩=>?_) (fun ys H10 ⟨e,hso,s10⟩=>?_)
  ·obtain⟨r,c,er,ec,ew,a1,a2⟩:=at_i hi
   obtain⟨⟨tv,kl,hl',ht',cs,g1,_⟩,_⟩:=all9 r (zAE er);have es:=Fg (f:=fun x:Cvx => !x.wt) ec;refine (vE rfl (vE rfl (vI rfl rfl (SqL.of (s2 _ _ hrows9)) a1 (vI rfl rfl (SqT.of (s2 _ _ g1)) rfl (vE rfl ?_)))));cases cw:r.wt with
   | true=>
    refine Dq ⟨rfl,?_,h1,s2⟩;rw[es,e,ew,cw];simp
   | false=>
    refine Kn (vE rfl (vE rfl (vI rfl rfl (SqL.of (s2 _ _ hecl)) a2 ⟨h1,rfl,?_,Ab,Ed nso s2⟩)));rw[es,e,ew,cw];simp [xV]
  rw[<- lcv,zAA] at e;subst e;refine Dr ([some (.ref a),some (.int u),some (.ref wl),some (.ref sl),o4,o5,o6,o7,o8,some (.ref fi),some (.ref wa'),some (.ref bl),some (.ref bcl),some (.ref so)]++zAz 7 none) rfl ?_;have subF:∀ x∈cvs.filter (fun x => !x.wt),x∈cvs:=fun x hx=>(zAL.mp hx).1;have subW:∀ x∈cvs.filter (fun x=>x.wt),x∈cvs:=fun x hx=>(zAL.mp hx).1;have lF:=zAI (fun x:Cvx => !x.wt) cvs;have lW:=zAI (fun x:Cvx=>x.wt) cvs;have ecF:((cvs.filter fun x => !x.wt).map EY).map Qc=(cvs.filter fun x => !x.wt).map xV:=by rw[zBb]; rfl
  refine (vE rfl (vE rfl (fun b1 e1 nb1 ne1 nn1=>?_)));have t1:Same H10 (upd (upd H10 e1 (.own b1)) b1 (.ins Az e1 [])):=(An ne1 _).trans (An (by rw[Ar (Ne.symm nn1)]; exact nb1) _);refine⟨b1,e1,so,(cvs.filter fun x => !x.wt).map EY,rfl,Ab,by rw[ecF]; exact t1 _ _ hso,(G0 (κ:=A8.mk Ac Ag Ah Am Au Bb Ba At) fun x hx=>(cv9 x (subF x hx)).same (s10.trans t1)),by rw[zAb]; lia,?_,fun cl1 ak1 H11 k11 B11 _ _=>⟨rfl,?_⟩⟩
  ·rw[zBb]
   exact nd.sublist (zBJ.map _)
  have s11:Same H10 H11:=Dw nb1 ne1 k11;have S11:=s10.trans s11;refine (vE rfl ⟨sl,_,rfl,.inl (SqL.of (S11 _ _ hrows9)),vE rfl ⟨by rw[lm]; lia,by rw[lm]; lia,fun w2 nw2=>?_⟩⟩);rw[show (((rows.map Kz).length:Int)).toNat=rows.length by rw[lm]; lia];refine Go (lo:=0) (n:=rows.length) (fun i ys H2=>ys=((cvs.take i).filter fun x=>x.wt).map xV/\H2 w2=some (.lst ys)/\Same H11 H2) ⟨rfl,Ab,An nw2 _⟩
   (fun i ys H2 hi ⟨e,h1,s2⟩=>⟨h1,by rw[e,zAb]; exact zAG (zAI _ _) (by rw[zAx]; lia)⟩) (by rw[zCE]; lia) (fun i ys H2 hi ⟨e,h1,s2⟩=>?_) (fun ys H12 ⟨e,hw2,s12⟩=>?_)
  ·obtain⟨r,c,er,ec,ew,a1,a2⟩:=at_i hi
   obtain⟨⟨tv,kl,hl',ht',cs,g1,_⟩,_⟩:=all9 r (zAE er);have es:=Fg (f:=fun x:Cvx=>x.wt) ec;have S2:=S11.trans s2;refine (vE rfl (vE rfl (vI rfl rfl (SqL.of (S2 _ _ hrows9)) a1 (vI rfl rfl (SqT.of (S2 _ _ g1)) rfl (vE rfl ?_)))));cases cw:r.wt with
   | false=>
    refine Dq ⟨rfl,?_,h1,s2⟩;rw[es,e,ew,cw];simp
   | true=>
    refine Kn (vE rfl (vE rfl (vI rfl rfl (SqL.of (S2 _ _ hecl)) a2 ⟨h1,rfl,?_,Ab,Ed nw2 s2⟩)));rw[es,e,ew,cw];simp [xV]
  rw[<- lcv,zAA] at e;subst e;have S12:=S11.trans s12;refine (vE rfl ⟨w2,so,_,_,rfl,rfl,hw2,s12 _ _ (s11 _ _ hso),by rw[zAb,zAb,zCE]; lia,fun c3 nc3=>?_⟩);rw[<- zAq];have s13:=An nc3 (.lst ((cvs.filter (fun x=>x.wt)++cvs.filter fun x => !x.wt).map xV));have h13:upd H12 c3 (.lst ((cvs.filter (fun x=>x.wt)++cvs.filter fun x => !x.wt).map xV)) c3=some (.lst ((cvs.filter (fun x=>x.wt)++cvs.filter fun x => !x.wt).map xV)):=Ab;generalize upd H12 c3 (.lst ((cvs.filter (fun x=>x.wt)++cvs.filter fun x => !x.wt).map xV))=H13 at s13 h13;have subA:∀ x∈cvs.filter (fun x=>x.wt)++cvs.filter (fun x => !x.wt),x∈cvs:=fun x hx=>(zAy.mp hx).elim (subW x) (subF x);have pA:(cvs.filter (fun x=>x.wt)++cvs.filter fun x => !x.wt).Perm cvs:=List.perm_append_comm.trans (Mr (fun x:Cvx=>x.wt) cvs);have ecA:((cvs.filter (fun x=>x.wt)++cvs.filter fun x => !x.wt).map EY).map Qc=(cvs.filter (fun x=>x.wt)++cvs.filter fun x => !x.wt).map xV:=by rw[zBb]; rfl
  refine fun b2 e2 nb2 ne2 nn2=>?_;have t2:Same H13 (upd (upd H13 e2 (.own b2)) b2 (.ins Az e2 [])):=(An ne2 _).trans (An (by rw[Ar (Ne.symm nn2)]; exact nb2) _);have S13:=S12.trans s13;refine⟨b2,e2,c3,(cvs.filter (fun x=>x.wt)++cvs.filter fun x => !x.wt).map EY,rfl,Ab,by rw[ecA]; exact t2 _ _ h13,(G0 (κ:=A8.mk Ac Ag Ah Am Au Bb Ba At) fun x hx=>(cv9 x (subA x hx)).same (S13.trans t2)),by rw[zAb,pA.length_eq]; lia,?_,fun cl2 ak2 H14 k14 B14 _ _=>⟨rfl,?_⟩⟩
  ·rw[zBb]
   exact ((pA.map (·.nm)).nodup_iff).mpr nd
  have s14:Same H13 H14:=Dw nb2 ne2 k14;refine⟨by rw[zCE]; show 2<=16777216; decide,fun l4 nl4=>?_⟩;have s15:=An nl4 (.lst [V.ref b1,.ref b2]);have h15:upd H14 l4 (.lst [V.ref b1,.ref b2]) l4=some (.lst [V.ref b1,.ref b2]):=Ab;generalize upd H14 l4 (.lst [V.ref b1,.ref b2])=H15 at s15 h15;have S15:=S13.trans (s14.trans s15);refine⟨bl,l4,_,_,rfl,rfl,S15 _ _ h9,h15,Cf (by show 1+2<=1000; decide),fun bl2 nbl2=>?_⟩;have s16:=An nbl2 (.lst ([V.ref bk]++[V.ref b1,.ref b2]));have h16:upd H15 bl2 (.lst ([V.ref bk]++[V.ref b1,.ref b2])) bl2=some (.lst [V.ref bk,.ref b1,.ref b2]):=Ab;generalize upd H15 bl2 (.lst ([V.ref bk]++[V.ref b1,.ref b2]))=H16 at s16 h16;refine Dr ([some (.ref a),some (.int u),some (.ref wl),some (.ref sl),o4,o5,o6,o7,o8,some (.ref fi),some (.ref wa'),some (.ref bl2),some (.ref bcl),some (.ref so)]++zAz 7 none) rfl ?_;have S16:=S15.trans s16;have T16:=S9.trans S16;have ask0:=(L6 B9 cv9).same S16;have ask1:=(L6 (B11.same (s12.trans (s13.trans (s14.trans (s15.trans s16))))) fun x hx=>(cv9 x (subF x hx)).same S16);have ask2:=(L6 (B14.same (s15.trans s16)) fun x hx=>(cv9 x (subA x hx)).same S16);rw[X4] at ask1;rw[Y3] at ask2;have hfi16:=S16 _ _ (s9 _ _ (s8 _ _ (s7 _ _ hfi)));have hwt16:=S16 _ _ (s9 _ _ (s8 _ _ hwt));have lrF:=zAI (fun r:Rwc => !r.wt) rows;have lrW:=zAI (fun r:Rwc=>r.wt) rows;refine (vE rfl ⟨fi,rfl,⟨_,SqL.of hfi16⟩,fun n1 nn=>?_⟩);refine Cb (K:=K) (a:=fi) (xs:=(rows.filter fun r => !r.wt).map Kz) (fun i ys H2=>ys=(((rows.filter fun r => !r.wt).take i).map (·.nm)).map V.str/\H2 n1=some (.lst ys)/\Same H16 H2) ⟨rfl,Ab,An nn _⟩
   (fun i ys H2 _ ⟨e,h1,s2⟩=>⟨h1,by rw[e,zAb,zAb,zAx]; lia,SqL.of (s2 _ _ hfi16)⟩) (by rw[zCE,zAb]; lia) (fun i x ys H2 hi ⟨e,h1,s2⟩=>?_) (fun ys H17 ⟨e,hn1,s17⟩=>?_)
  ·rw[zAs] at hi
   obtain⟨r,hx,rfl⟩:=zAJ.mp hi;obtain⟨⟨tv,kl,hl',ht',cs,g1,_⟩,_⟩:=all r (zAL.mp (zAE hx)).1;refine (vE rfl (vI rfl rfl (SqT.of (s2 _ _ (T16 _ _ g1))) rfl ⟨h1,rfl,?_,Ab,Ed nn s2⟩));rw[Bu hx,zAq,zAq,e];rfl
  rw[zAb,zAA] at e;subst e;refine Dr ([some (.ref a),some (.int u),some (.ref wl),some (.ref sl),o4,o5,o6,o7,o8,some (.ref fi),some (.ref wa'),some (.ref bl2),some (.ref bcl),some (.ref n1)]++zAz 7 none) rfl ?_;have hwt17:=s17 _ _ hwt16;refine (vE rfl ⟨wa',rfl,⟨_,SqL.of hwt17⟩,fun n2 nn=>?_⟩);refine Cb (K:=K) (a:=wa') (xs:=(rows.filter fun r=>r.wt).map Kz) (fun i ys H2=>ys=(((rows.filter fun r=>r.wt).take i).map (·.nm)).map V.str/\H2 n2=some (.lst ys)/\Same H17 H2) ⟨rfl,Ab,An nn _⟩
   (fun i ys H2 _ ⟨e,h1,s2⟩=>⟨h1,by rw[e,zAb,zAb,zAx]; lia,SqL.of (s2 _ _ hwt17)⟩) (by rw[zCE,zAb]; lia) (fun i x ys H2 hi ⟨e,h1,s2⟩=>?_) (fun ys H18 ⟨e,hn2,s18⟩=>?_)
  ·rw[zAs] at hi
   obtain⟨r,hx,rfl⟩:=zAJ.mp hi;obtain⟨⟨tv,kl,hl',ht',cs,g1,_⟩,_⟩:=all r (zAL.mp (zAE hx)).1;refine (vE rfl (vI rfl rfl (SqT.of (s2 _ _ (s17 _ _ (T16 _ _ g1)))) rfl ⟨h1,rfl,?_,Ab,Ed nn s2⟩));rw[Bu hx,zAq,zAq,e];rfl
  rw[zAb,zAA] at e;subst e;refine Dr ([some (.ref a),some (.int u),some (.ref wl),some (.ref sl),o4,o5,o6,o7,o8,some (.ref fi),some (.ref wa'),some (.ref bl2),some (.ref bcl),some (.ref n1),some (.ref n2)]++zAz 6 none) rfl ?_;have s168:=s17.trans s18;have T18:=T16.trans s168;refine (vE rfl (vE rfl (vE rfl ⟨a,ns,6,u,wl,A,B,C,D,rfl,T18.seq ha5,l63,by decide,uo,wa5.same T18,W,fun ls xs zs H19 s19 nls hls lfs lz zpos=>?_⟩)));refine Dr ([some (.ref a),some (.int u),some (.ref wl),some (.ref sl),o4,o5,o6,o7,o8,some (.ref fi),some (.ref wa'),some (.ref bl2),some (.ref bcl),some (.ref n1),some (.ref n2),some (.ref ls)]++zAz 5 none) rfl ?_;have s1619:=s168.trans s19;have T19:=T18.trans s19;have h19:=s1619 _ _ h16;have A0:=ask0.same s1619;have A1:=ask1.same s1619;have A2:=ask2.same s1619;have hn1':=s19 _ _ (s18 _ _ hn1);have hn2':=s19 _ _ hn2;have hrows19:=T19 _ _ hrows;have all19:∀ x∈rows,RwcAt H19 x/\Os x:=fun x hx=>⟨(all x hx).1.same T19,(all x hx).2⟩;have ha19:SqL K H19 a (ns.map V.int):=T19.seq ha5;have lx:=lfs.len;have hmc:∀ x∈cvs,Ow x.t<4:=fun x hx=>by
   have:un x∈(rows.map cu).map un:=by rw[<- eun]; exact zAr.mpr ⟨x,hx,rfl⟩
   obtain⟨y,hy,e⟩:=zAr.mp this;obtain⟨r,hr',rfl⟩:=zAr.mp hy;have e':x.t=r.t:=congrArg (·.2.1) e.symm;rw[e'];have:=(all r hr').2.hg
   lia
  have nmF:∀ x∈cvs.filter (fun x => !x.wt),x.nm∈(rows.filter fun r => !r.wt).map (·.nm):=fun x hx=>by
   obtain⟨m1,m2⟩:=zAL.mp hx;have:un x∈(rows.map cu).map un:=by rw[<- eun]; exact zAr.mpr ⟨x,m1,rfl⟩
   obtain⟨y,hy,e⟩:=zAr.mp this;obtain⟨r,hr',rfl⟩:=zAr.mp hy;have ew:r.wt=x.wt:=congrArg (·.2.2.2) e;have en:r.nm=x.nm:=congrArg (·.1) e;exact zAr.mpr ⟨r,zAL.mpr ⟨hr',by rw[ew]; exact m2⟩,en⟩
  have nmW:∀ x∈cvs.filter (fun x=>x.wt),x.nm∈(rows.filter fun r=>r.wt).map (·.nm):=fun x hx=>by
   obtain⟨m1,m2⟩:=zAL.mp hx;have:un x∈(rows.map cu).map un:=by rw[<- eun]; exact zAr.mpr ⟨x,m1,rfl⟩
   obtain⟨y,hy,e⟩:=zAr.mp this;obtain⟨r,hr',rfl⟩:=zAr.mp hy;have ew:r.wt=x.wt:=congrArg (·.2.2.2) e;have en:r.nm=x.nm:=congrArg (·.1) e;exact zAr.mpr ⟨r,zAL.mpr ⟨hr',by rw[ew]; exact m2⟩,en⟩
  have dj:∀ n∈(rows.filter fun r => !r.wt).map (·.nm),n∉(rows.filter fun r=>r.wt).map (·.nm):=fun n h1 h2=>by
   have ndr:(rows.map (·.nm)).Nodup:=by rw[enm]; exact W.d.nd
   have:=((Mr (fun r:Rwc=>r.wt) rows).map (·.nm)).nodup_iff.mpr ndr;rw[zAq,zBU] at this;exact this.2.2 n h1 n h2 rfl
  have eAsk:∀ z,Jy z (Ly cvs)=Jy z (cvs.filter fun x => !x.wt)++Jy z (cvs.filter fun x=>x.wt):=fun z=>by
   unfold Jy Ly;rw[zBj]
  have ndA:((Ly cvs).map (·.nm)).Nodup:=((Kh cvs).map (·.nm)).nodup_iff.mpr nd;have ndF:((cvs.filter fun x => !x.wt).map (·.nm)).Nodup:=nd.sublist (zBJ.map _);have hmA:∀ x∈Ly cvs,Ow x.t<4:=fun x hx=>hmc x ((Kh cvs).mem_iff.mp hx);have lA:(Ly cvs).length=cvs.length:=(Kh cvs).length_eq;clear T18 T16 S16 S15 S13 S12 S11 s168 s1619 ask0 ask1 ask2 hfi16 hwt16 hwt17 hn1 hn2 s19 s18 s17 s16 s15 s14 s13 s12 s11 s10 h16 h15 h13 B14 B11 hso hw2 t1 t2 k11 k14 hek hecl heak B9 B8 cv8 cv9 all9 hrows9 S9 s9 s8 S7 s7 s6 hrows7 hrows6 hfi hwt h9 all hrows at_i ecA ecF pA subA nls T19;refine (vE rfl ⟨ls,_,rfl,.inl (SqL.of hls),vE rfl ⟨by lia,by lia,?_⟩⟩);rw[show ((xs.length:Int)).toNat=zs.length by lia];refine En (lo:=0) (n:=zs.length) (fun i σ H8=>(∃ o16 o17 o18 o19 o20,σ=[some (.ref a),some (.int u),some (.ref wl),some (.ref sl),o4,o5,o6,o7,o8,some (.ref fi),some (.ref wa'),some (.ref bl2),some (.ref bcl),some (.ref n1),some (.ref n2),some (.ref ls),o16,o17,o18,o19,o20])/\Same H19 H8)
   ⟨⟨none,none,none,none,none,rfl⟩,Same.refl _⟩ ?_ ?_
  ·rintro i σ H8 hi ⟨⟨o16,o17,o18,o19,o20,rfl⟩,s8⟩
   have ez:zs[i]?=some zs[i]:=zAe hi;have zp:=zpos zs[i] (zBc hi);generalize zs[i]=z at ez zp;have hxi:xs[i]?=some (xs[i]'(by lia)):=zAe _;obtain⟨l,z',ez',exi,hl⟩:=lfs.get hxi;rw[ez] at ez';cases ez';rw[exi] at hxi;have aj:Nf xs (0+(i:Int))=some (.ref l):=by rw[show (0+(i:Int))=(i:Int) by lia]; exact Ey hxi
   refine Dr [some (.ref a),some (.int u),some (.ref wl),some (.ref sl),o4,o5,o6,o7,o8,some (.ref fi),some (.ref wa'),some (.ref bl2),some (.ref bcl),some (.ref n1),some (.ref n2),some (.ref ls),some (.int (0+(i:Int))),o17,o18,o19,o20] rfl ?_;refine (vE rfl (vE rfl (vI rfl rfl (SqL.of (s8 _ _ hls)) aj ?_)));refine Dr [some (.ref a),some (.int u),some (.ref wl),some (.ref sl),o4,o5,o6,o7,o8,some (.ref fi),some (.ref wa'),some (.ref bl2),some (.ref bcl),some (.ref n1),some (.ref n2),some (.ref ls),some (.int (0+(i:Int))),some (.ref l),o18,o19,o20] rfl ?_;refine (vE rfl (vE rfl (vE rfl (vE rfl ⟨a,ns,_,rfl,s8.seq ha19,by lia,l63,vE rfl ⟨sl,l,rows,z,_,u,rfl,s8 _ _ hrows19,fun x hx=>⟨(all19 x hx).1.same s8,(all19 x hx).2⟩,by lia,s8 _ _ hl,uo,fun d kvs H9 s9 nd' hd kf lk hall=>⟨d,kvs,rfl,hd,kf,by lia,fun p kp H10 s10 ct np nkp=>?_⟩⟩⟩))));refine Dr [some (.ref a),some (.int u),some (.ref wl),some (.ref sl),o4,o5,o6,o7,o8,some (.ref fi),some (.ref wa'),some (.ref bl2),some (.ref bcl),some (.ref n1),some (.ref n2),some (.ref ls),some (.int (0+(i:Int))),some (.ref l),some (.ref p),o19,o20] rfl ?_;have S10:=s8.trans (s9.trans s10);have iv:=kf.int;refine (vE rfl (vI rfl rfl (SqL.of (S10 _ _ h19)) rfl (vE rfl (vE rfl ⟨bk,p,kp,kvs,l,z,Ly cvs,rfl,A0.same S10,hmA,by lia,ndA,ct,iv,S10 _ _ hl,zp,fun r ys S H11 s11 nr hr11 sts so l64=>?_⟩))));refine Dr [some (.ref a),some (.int u),some (.ref wl),some (.ref sl),o4,o5,o6,o7,o8,some (.ref fi),some (.ref wa'),some (.ref bl2),some (.ref bcl),some (.ref n1),some (.ref n2),some (.ref ls),some (.int (0+(i:Int))),some (.ref l),some (.ref p),some (.ref r),o20] rfl ?_
   have S11:=S10.trans s11;refine (vE rfl (vI rfl rfl (SqL.of (S11 _ _ h19)) rfl (vE rfl (vE rfl ⟨b1,p,kp,kvs,l,z,cvs.filter fun x => !x.wt,rfl,A1.same S11,fun x hx=>hmc x (subF x hx),by lia,ndF,ct.same s11,iv,S11 _ _ hl,zp,fun r1 ys1 S1 H12 s12 nr1 hr12 sts1 so1 l641=>?_⟩))));refine Dr [some (.ref a),some (.int u),some (.ref wl),some (.ref sl),o4,o5,o6,o7,o8,some (.ref fi),some (.ref wa'),some (.ref bl2),some (.ref bcl),some (.ref n1),some (.ref n2),some (.ref ls),some (.int (0+(i:Int))),some (.ref l),some (.ref p),some (.ref r),some (.ref r1)] rfl ?_;have S12:=S11.trans s12;have fo:=Ov so (ndA.sublist (List.Sublist.map _ (zBJ))) zp;have fo1:=Ov so1 (ndF.sublist (List.Sublist.map _ (zBJ))) zp;have hr12':=s12 _ _ hr11;have sts':=sts.mono (Bo s12);refine (vE rfl (vE rfl (vI rfl rfl (SqT.of (S12 _ _ hl)) rfl ⟨r,ys,S,z.ct,rfl,hr12',sts',fo,fun H13 s13=>(vE rfl (Dq ?_))⟩)));refine (vE rfl (vE rfl (vI rfl rfl (SqT.of (s13 _ _ (S12 _ _ hl))) rfl ⟨r1,ys1,S1,z.ct,rfl,s13 _ _ hr12,sts1.mono (Bo s13),fo1,fun H14 s14=>(vE rfl (Dq ?_))⟩)));have s134:=s13.trans s14;have S14:=S12.trans s134;rw[eAsk] at so;obtain⟨w1,w2'⟩:=Zn zp so so1 (fun s hs=>((Wn fo).2 s hs).1) (fun s hs=>((Wn fo1).2 s hs).1) (fun x hx=>nmF x (zAL.mp hx).1) (fun x hx=>nmW x (zAL.mp hx).1) dj;have hr14:=s134 _ _ hr12';have sts14:=sts'.mono (Bo s134);have hr114:=s134 _ _ hr12;have sts114:=sts1.mono (Bo s134);refine (vE rfl (vE rfl ⟨r,n1,ys,S,_,rfl,hr14,sts14,by lia,S14 _ _ hn1',fun q1 zs1 H15 s15 nq1 hq1 st1=>?_⟩))
   refine (vE rfl (vE rfl ⟨r1,n1,ys1,S1,_,rfl,s15 _ _ hr114,sts114.mono (Bo s15),by lia,s15 _ _ (S14 _ _ hn1'),fun q2 zs2 H16 s16 nq2 hq2 st2=>?_⟩));refine⟨false,_,_,Xx (s16 _ _ hq1) (st1.mono (Bo s16)),Xx hq2 st2,by have:=Pz (Y5 ((rows.filter fun r => !r.wt).map (·.nm)) S); have:=Pz (Y5 ((rows.filter fun r => !r.wt).map (·.nm)) S1); lia,_,rfl,bF (by show (!eqDs _ _)=false; rw[w1,Sl]; rfl) ?_⟩;have s146:=s15.trans s16;have S16:=S14.trans s146;have hr16:=s146 _ _ hr14;have sts16:=sts14.mono (Bo s146);refine (vE rfl (vE rfl ⟨r,n2,ys,S,_,rfl,hr16,sts16,by lia,S16 _ _ hn2',fun q3 zs3 H17 s17 nq3 hq3 st3=>?_⟩));refine (vE rfl ⟨q3,r1,zs3,ys1,_,S1,rfl,hq3,st3,s17 _ _ (s146 _ _ hr114),sts114.mono (Bo (s146.trans s17)),w2',fun H18 s18=>(vE rfl (Dq ?_))⟩);have S18:=S16.trans (s17.trans s18);have ct18:=ct.same (s11.trans (s12.trans (s134.trans (s146.trans (s17.trans s18)))));refine (vE rfl (vI rfl rfl (SqL.of (S18 _ _ h19)) rfl (vE rfl (vE rfl ⟨b2,p,kp,kvs,l,z,Ly cvs,rfl,A2.same S18,hmA,by lia,ndA,ct18,iv,S18 _ _ hl,zp,fun r2 ys2 S2 H20 s20 nr2 hr20 sts20 so2 _=>?_⟩))));rw[<- eAsk] at so;obtain rfl:=B6 rfl so2 so;refine (vE rfl ⟨false,S2.map dS,S2.map dS,Xx hr20 sts20,Xx (s20 _ _ (s18 _ _ (s17 _ _ hr16))) (sts16.mono (Bo (s17.trans (s18.trans s20)))),by have:=Pz S2; lia,_,rfl,bF (by show (!eqDs _ _)=false; rw[Sl]; rfl) ?_⟩);exact⟨⟨_,_,_,_,_,rfl⟩,S18.trans s20⟩
  ·rintro σ H8 ⟨⟨o16,o17,o18,o19,o20,rfl⟩,s8⟩
   exact q _
end
theorem GH {P:Program} {w:World} {K:zAa} {mg:Str->Option Value} {base:Heap} {CX:W5} {k:Nat} {f:Addr} {fd:zCG} {ps:List Str} {sp:Sp} (h:∀ vs H Q E,¬ sp vs H Q E):FnOk P w K mg base CX k f fd ps sp:=
 ⟨fun vs H Q E z=>absurd z (h vs H Q E),fun _ _ _ _ _ _ _ _ _ _ _ _ _ z=>absurd z (h _ _ _ _)⟩
theorem all_mk {l:PySem.W.OpenLaw} {w:World} {K:zAa} {h:Heap} {mg:Str->Option Value} {fa:Addr} (X:K.In h) (G:h.Ns zCH mg) (hfa:mg "law" = some (.ref fa))
  {f0:Addr} (d0:DfIn K "is_whole" Ma f0)
  {f1:Addr} (d1:DfIn K "has_letters_alone" Dz f1)
  {f2:Addr} (d2:DfIn K "is_name" Nn f2)
  {f3:Addr} (d3:DfIn K "is_amount" Jo f3)
  {f4:Addr} (d4:DfIn K "year_of" Oe f4)
  {f5:Addr} (d5:DfIn K "checked_amount" Fd f5)
  {f6:Addr} (d6:DfIn K "cent_at" Nk f6)
  {f7:Addr} (d7:DfIn K "cut_within" Id f7)
  {f8:Addr} (d8:DfIn K "lowest_of" Jj f8)
  {f9:Addr} (d9:DfIn K "left_of_run" Hc f9)
  {f10:Addr} (d10:DfIn K "cut_out" Oh f10)
  {f11:Addr} (d11:DfIn K "numbers_of" Ip f11)
  {f12:Addr} (d12:DfIn K "asked_of" Lp f12)
  {f13:Addr} (d13:DfIn K "paid_runs" Jx f13)
  {f14:Addr} (d14:DfIn K "borne_strips" Gd f14)
  {f15:Addr} (d15:DfIn K "strips_of" Jq f15)
  {f16:Addr} (d16:DfIn K "are_weights" Hn f16)
  {f17:Addr} (d17:DfIn K "may_have" Le f17)
  {f18:Addr} (d18:DfIn K "due_by" Qq f18)
  {f19:Addr} (d19:DfIn K "place_of_turn" Fv f19)
  {f20:Addr} (d20:DfIn K "turns" Yo f20)
  {f21:Addr} (d21:DfIn K "check_houses" Gh f21)
  {f22:Addr} (d22:DfIn K "first_without" Fu f22)
  {f23:Addr} (d23:DfIn K "bounds_of" Jg f23)
  {f24:Addr} (d24:DfIn K "_law_cell" Jf f24)
  {f25:Addr} (d25:DfIn K "_law_whole" Ir f25)
  {f26:Addr} (d26:DfIn K "_law_spread" Hi f26)
  {f27:Addr} (d27:DfIn K "_law_names" Il f27)
  {f28:Addr} (d28:DfIn K "_law_amount" Hj f28)
  {f29:Addr} (d29:DfIn K "_law_world" Ij f29)
  {f30:Addr} (d30:DfIn K "_law_unit" Kd f30)
  {f31:Addr} (d31:DfIn K "_law_cond" Ke f31)
  {f32:Addr} (d32:DfIn K "_law_drawn_clause" Dx f32)
  {f33:Addr} (d33:DfIn K "_law_covers" Hq f33)
  {f34:Addr} (d34:DfIn K "_law_loss" Jw f34)
  {f35:Addr} (d35:DfIn K "_law_losses" He f35)
  {f36:Addr} (d36:DfIn K "_law_key" Lq f36)
  {f37:Addr} (d37:DfIn K "_law_form" Ju f37)
  {f38:Addr} (d38:DfIn K "_law_condition" Fc f38)
  {f39:Addr} (d39:DfIn K "_law_clause" Hk f39)
  {f40:Addr} (d40:DfIn K "_law_book" Jh f40)
  {f41:Addr} (d41:DfIn K "_law_state" Hx f41)
  {f42:Addr} (d42:DfIn K "_law_counts" Hf f42)
  {f43:Addr} (d43:DfIn K "_law_paid_strips" Em f43)
  {f44:Addr} (d44:DfIn K "_law_apart" Ig f44)
  {f45:Addr} (d45:DfIn K "law" Qv f45)
  {Ac:Addr} (q_Condition:ClIn K "Condition" Ac)
  {Ag:Addr} (q_CauseIs:ClIn K "CauseIs" Ag)
  (na_CauseIs_name:zAc K (.ref Ag) "name" = some none)
  {Ah:Addr} (q_ThingIs:ClIn K "ThingIs" Ah)
  (na_ThingIs_name:zAc K (.ref Ah) "name" = some none)
  {Am:Addr} (q_DaysIn:ClIn K "DaysIn" Am)
  (na_DaysIn_first:zAc K (.ref Am) "first" = some none)
  (na_DaysIn_last:zAc K (.ref Am) "last" = some none)
  {Au:Addr} (q_Over:ClIn K "Over" Au)
  (na_Over_cents:zAc K (.ref Au) "cents" = some none)
  {Bb:Addr} (q_Not:ClIn K "Not" Bb)
  (na_Not_part:zAc K (.ref Bb) "part" = some none)
  {Ba:Addr} (q_All:ClIn K "All" Ba)
  (na_All_several:zAc K (.ref Ba) "several" = some none)
  {At:Addr} (q_Some:ClIn K "Some" At)
  (na_Some_several:zAc K (.ref At) "several" = some none)
  {Ad:Addr} (q_Clause:ClIn K "Clause" Ad)
  (na_Clause_by:zAc K (.ref Ad) "by" = some none)
  (ha_Clause:zAc K (.ref Ad) "__class__" = some (some (.builtin "object.__class__"))) (hm_Clause:zCx K Ad (.type "object")=some true)
  (gs:zCv K (.builtin "object.__class__") "__get__" = some (some (.builtin "getset_descriptor.__get__"))) (tk:PySem.W.takesIn K (.builtin "object.__class__")=some true)
  {Aw:Addr} (q_Own:ClIn K "Own" Aw)
  (na_Own_cents:zAc K (.ref Aw) "cents" = some none)
  (na_Own_by:zAc K (.ref Aw) "by" = some none)
  (ha_Own:zAc K (.ref Aw) "__class__" = some (some (.builtin "object.__class__"))) (hm_Own:zCx K Aw (.type "object")=some true)
  {Ak:Addr} (q_Layer:ClIn K "Layer" Ak)
  (na_Layer_first:zAc K (.ref Ak) "first" = some none)
  (na_Layer_upto:zAc K (.ref Ak) "upto" = some none)
  (na_Layer_by:zAc K (.ref Ak) "by" = some none)
  (ha_Layer:zAc K (.ref Ak) "__class__" = some (some (.builtin "object.__class__"))) (hm_Layer:zCx K Ak (.type "object")=some true)
  {Aj:Addr} (q_Limit:ClIn K "Limit" Aj)
  (na_Limit_most:zAc K (.ref Aj) "most" = some none)
  (na_Limit_by:zAc K (.ref Aj) "by" = some none)
  (ha_Limit:zAc K (.ref Aj) "__class__" = some (some (.builtin "object.__class__"))) (hm_Limit:zCx K Aj (.type "object")=some true)
  {Bg:Addr} (q_Deal:ClIn K "Deal" Bg)
  (na_Deal_wheel:zAc K (.ref Bg) "wheel" = some none)
  (na_Deal_weights:zAc K (.ref Bg) "weights" = some none)
  {Ai:Addr} (q_Cover:ClIn K "Cover" Ai)
  (na_Cover_name:zAc K (.ref Ai) "name" = some none)
  (na_Cover_condition:zAc K (.ref Ai) "condition" = some none)
  (na_Cover_clauses:zAc K (.ref Ai) "clauses" = some none)
  (na_Cover_houses:zAc K (.ref Ai) "houses" = some none)
  (na_Cover_deal:zAc K (.ref Ai) "deal" = some none)
  (na_Cover_waits:zAc K (.ref Ai) "waits" = some none)
  {Az:Addr} (q_Book:ClIn K "Book" Az)
  (na_Book_covers:zAc K (.ref Az) "covers" = some none)
  (na_Book_asking:zAc K (.ref Az) "asking" = some none)
  {Aq:Addr} (q_Counts:ClIn K "Counts" Aq)
  (na_Counts_kept:zAc K (.ref Aq) "kept" = some none)
  (kt_Clause_Limit:zAV K (.ref Ad) (.ref Aj)=some false)
  (kt_Own_Limit:zAV K (.ref Aw) (.ref Aj)=some false)
  (kt_Layer_Limit:zAV K (.ref Ak) (.ref Aj)=some false)
  (kt_Limit_Limit:zAV K (.ref Aj) (.ref Aj)=some true)
  (nd_C:([Ac,Ag,Ah,Am,Au,Bb,Ba,At,Ad,Aw,Ak,Aj,Bg,Ai,Az,Aq]:List Addr).Nodup)
  {fCondition_holds:Addr} (a_Condition_holds:zAc K (.ref Ac) "holds" = some (some (.ref fCondition_holds))) (iCondition_holds:MtIn K "holds" "Condition.holds" Ev fCondition_holds)
  {fCauseIs___init__:Addr} (a_CauseIs___init__:zAc K (.ref Ag) "__init__" = some (some (.ref fCauseIs___init__))) (iCauseIs___init__:MtIn K "__init__" "CauseIs.__init__" El fCauseIs___init__)
  {fCauseIs_holds:Addr} (a_CauseIs_holds:zAc K (.ref Ag) "holds" = some (some (.ref fCauseIs_holds))) (iCauseIs_holds:MtIn K "holds" "CauseIs.holds" Fq fCauseIs_holds)
  {fThingIs___init__:Addr} (a_ThingIs___init__:zAc K (.ref Ah) "__init__" = some (some (.ref fThingIs___init__))) (iThingIs___init__:MtIn K "__init__" "ThingIs.__init__" Eh fThingIs___init__)
  {fThingIs_holds:Addr} (a_ThingIs_holds:zAc K (.ref Ah) "holds" = some (some (.ref fThingIs_holds))) (iThingIs_holds:MtIn K "holds" "ThingIs.holds" Fn fThingIs_holds)
  {fDaysIn___init__:Addr} (a_DaysIn___init__:zAc K (.ref Am) "__init__" = some (some (.ref fDaysIn___init__))) (iDaysIn___init__:MtIn K "__init__" "DaysIn.__init__" Ez fDaysIn___init__)
  {fDaysIn_holds:Addr} (a_DaysIn_holds:zAc K (.ref Am) "holds" = some (some (.ref fDaysIn_holds))) (iDaysIn_holds:MtIn K "holds" "DaysIn.holds" Gs fDaysIn_holds)
  {fOver___init__:Addr} (a_Over___init__:zAc K (.ref Au) "__init__" = some (some (.ref fOver___init__))) (iOver___init__:MtIn K "__init__" "Over.__init__" Fm fOver___init__)
  {fOver_holds:Addr} (a_Over_holds:zAc K (.ref Au) "holds" = some (some (.ref fOver_holds))) (iOver_holds:MtIn K "holds" "Over.holds" Ie fOver_holds)
  {fNot___init__:Addr} (a_Not___init__:zAc K (.ref Bb) "__init__" = some (some (.ref fNot___init__))) (iNot___init__:MtIn K "__init__" "Not.__init__" Gm fNot___init__)
  {fNot_holds:Addr} (a_Not_holds:zAc K (.ref Bb) "holds" = some (some (.ref fNot_holds))) (iNot_holds:MtIn K "holds" "Not.holds" Jk fNot_holds)
  {fAll___init__:Addr} (a_All___init__:zAc K (.ref Ba) "__init__" = some (some (.ref fAll___init__))) (iAll___init__:MtIn K "__init__" "All.__init__" Gn fAll___init__)
  {fAll_holds:Addr} (a_All_holds:zAc K (.ref Ba) "holds" = some (some (.ref fAll_holds))) (iAll_holds:MtIn K "holds" "All.holds" Jv fAll_holds)
  {fSome___init__:Addr} (a_Some___init__:zAc K (.ref At) "__init__" = some (some (.ref fSome___init__))) (iSome___init__:MtIn K "__init__" "Some.__init__" Fs fSome___init__)
  {fSome_holds:Addr} (a_Some_holds:zAc K (.ref At) "holds" = some (some (.ref fSome_holds))) (iSome_holds:MtIn K "holds" "Some.holds" Im fSome_holds)
  {fClause___init__:Addr} (a_Clause___init__:zAc K (.ref Ad) "__init__" = some (some (.ref fClause___init__))) (iClause___init__:MtIn K "__init__" "Clause.__init__" Eu fClause___init__)
  {fClause_span:Addr} (a_Clause_span:zAc K (.ref Ad) "span" = some (some (.ref fClause_span))) (iClause_span:MtIn K "span" "Clause.span" Hm fClause_span)
  {fClause_room:Addr} (a_Clause_room:zAc K (.ref Ad) "room" = some (some (.ref fClause_room))) (iClause_room:MtIn K "room" "Clause.room" Hl fClause_room)
  {fClause_key:Addr} (a_Clause_key:zAc K (.ref Ad) "key" = some (some (.ref fClause_key))) (iClause_key:MtIn K "key" "Clause.key" Ia fClause_key)
  {fOwn___init__:Addr} (a_Own___init__:zAc K (.ref Aw) "__init__" = some (some (.ref fOwn___init__))) (iOwn___init__:MtIn K "__init__" "Own.__init__" Gq fOwn___init__)
  {fOwn_span:Addr} (a_Own_span:zAc K (.ref Aw) "span" = some (some (.ref fOwn_span))) (iOwn_span:MtIn K "span" "Own.span" Lk fOwn_span)
  {fLayer___init__:Addr} (a_Layer___init__:zAc K (.ref Ak) "__init__" = some (some (.ref fLayer___init__))) (iLayer___init__:MtIn K "__init__" "Layer.__init__" Fe fLayer___init__)
  {fLayer_span:Addr} (a_Layer_span:zAc K (.ref Ak) "span" = some (some (.ref fLayer_span))) (iLayer_span:MtIn K "span" "Layer.span" Ii fLayer_span)
  {fLimit___init__:Addr} (a_Limit___init__:zAc K (.ref Aj) "__init__" = some (some (.ref fLimit___init__))) (iLimit___init__:MtIn K "__init__" "Limit.__init__" Ff fLimit___init__)
  {fLimit_room:Addr} (a_Limit_room:zAc K (.ref Aj) "room" = some (some (.ref fLimit_room))) (iLimit_room:MtIn K "room" "Limit.room" Ib fLimit_room)
  {fDeal___init__:Addr} (a_Deal___init__:zAc K (.ref Bg) "__init__" = some (some (.ref fDeal___init__))) (iDeal___init__:MtIn K "__init__" "Deal.__init__" Fw fDeal___init__)
  {fCover___init__ dvCover___init__:Addr} {odCover___init__ anCover___init__:Option Addr} {slCover___init__:Array (Option Value)} {ocCover___init__ kVCover___init__ dcCover___init__ pmCover___init__ cdCover___init__ ctCover___init__:Value}
  (a_Cover___init__:zAc K (.ref Ai) "__init__" = some (some (.ref fCover___init__)))
  (iCover___init__:zCp K (.ref fCover___init__)=true) (lCover___init__:K.lookup fCover___init__=some ⟨ocCover___init__,odCover___init__,.func (zAW "__init__" "Cover.__init__" (Dk Ce) (Df Ce) (As Ce) (.ref dvCover___init__) kVCover___init__ dcCover___init__ pmCover___init__ anCover___init__ cdCover___init__ ctCover___init__),slCover___init__⟩) (cCover___init__:zBo K cdCover___init__ "Cover.__init__" = true) (kCover___init__:zAT K (.ref fCover___init__)=true)
  {ndCover___init__:Nat} (dlCover___init__:K.lookup dvCover___init__=some ⟨.type "tuple",none,.seq #[.none,.none,.bool false] ndCover___init__,#[]⟩)
  {fCover_asks:Addr} (a_Cover_asks:zAc K (.ref Ai) "asks" = some (some (.ref fCover_asks))) (iCover_asks:MtIn K "asks" "Cover.asks" Ik fCover_asks)
  {fCover_spans:Addr} (a_Cover_spans:zAc K (.ref Ai) "spans" = some (some (.ref fCover_spans))) (iCover_spans:MtIn K "spans" "Cover.spans" Hd fCover_spans)
  {fCover_window:Addr} (a_Cover_window:zAc K (.ref Ai) "window" = some (some (.ref fCover_window))) (iCover_window:MtIn K "window" "Cover.window" Ge fCover_window)
  {fCover_parts:Addr} (a_Cover_parts:zAc K (.ref Ai) "parts" = some (some (.ref fCover_parts))) (iCover_parts:MtIn K "parts" "Cover.parts" Hh fCover_parts)
  {fCover_rest:Addr} (a_Cover_rest:zAc K (.ref Ai) "rest" = some (some (.ref fCover_rest))) (iCover_rest:MtIn K "rest" "Cover.rest" Hy fCover_rest)
  {fBook___init__:Addr} (a_Book___init__:zAc K (.ref Az) "__init__" = some (some (.ref fBook___init__))) (iBook___init__:MtIn K "__init__" "Book.__init__" Fr fBook___init__)
  {fCounts___init__:Addr} (a_Counts___init__:zAc K (.ref Aq) "__init__" = some (some (.ref fCounts___init__))) (iCounts___init__:MtIn K "__init__" "Counts.__init__" Er fCounts___init__)
  {fCounts_have:Addr} (a_Counts_have:zAc K (.ref Aq) "have" = some (some (.ref fCounts_have))) (iCounts_have:MtIn K "have" "Counts.have" Ho fCounts_have)
  {fCounts_add:Addr} (a_Counts_add:zAc K (.ref Aq) "add" = some (some (.ref fCounts_add))) (iCounts_add:MtIn K "add" "Counts.add" Io fCounts_add)
  (a_Own_room:zAc K (.ref Aw) "room" = some (some (.ref fClause_room)))
  (a_Own_key:zAc K (.ref Aw) "key" = some (some (.ref fClause_key)))
  (a_Layer_room:zAc K (.ref Ak) "room" = some (some (.ref fClause_room)))
  (a_Layer_key:zAc K (.ref Ak) "key" = some (some (.ref fClause_key)))
  (a_Limit_span:zAc K (.ref Aj) "span" = some (some (.ref fClause_span)))
  (a_Limit_key:zAc K (.ref Aj) "key" = some (some (.ref fClause_key)))
  (bg_Clause___init__:zCv K (.ref Ad) "__getattribute__" = some (some (.builtin "type.__getattribute__"))) (br_Clause___init__:PySem.W.readsIn K Ad (.type "type")=true) (bf_Clause___init__:PySem.W.findCls K (.ref Ad) (.type "type") "__init__" = some (.val (.ref fClause___init__)))
  (ni_Condition:zAc K (.ref Ac) "__init__" = some (some (.builtin "object.__init__")))
  {w_WAYS:Addr} {nw_WAYS:Nat} {tk_WAYS0 tk_WAYS1 tk_WAYS2 tk_WAYS3:Tok} (z_WAYS:zAF K zCH "WAYS" = some (some (.ref w_WAYS))) (lw_WAYS:K.lookup w_WAYS=some ⟨.type "tuple",none,.seq #[.str "event" tk_WAYS0,.str "thing" tk_WAYS1,.str "year" tk_WAYS2,.str "loss" tk_WAYS3] nw_WAYS,#[]⟩)
  {tk_CAUSE:Tok} (z_CAUSE:zAF K zCH "CAUSE" = some (some (.int 4 tk_CAUSE)))
  {tk_CENTS:Tok} (z_CENTS:zAF K zCH "CENTS" = some (some (.int 5 tk_CENTS)))
  {tk_COVERED_ONE:Tok} (z_COVERED_ONE:zAF K zCH "COVERED_ONE" = some (some (.str "self" tk_COVERED_ONE)))
  {tk_DAY:Tok} (z_DAY:zAF K zCH "DAY" = some (some (.int 1 tk_DAY)))
  {tk_DAYS_OF_YEAR:Tok} (z_DAYS_OF_YEAR:zAF K zCH "DAYS_OF_YEAR" = some (some (.int 365 tk_DAYS_OF_YEAR)))
  {tk_EVENT:Tok} (z_EVENT:zAF K zCH "EVENT" = some (some (.int 2 tk_EVENT)))
  {tk_LETTERS:Tok} (z_LETTERS:zAF K zCH "LETTERS" = some (some (.str "abcdefghijklmnopqrstuvwxyz" tk_LETTERS)))
  {tk_LONGEST_NAME:Tok} (z_LONGEST_NAME:zAF K zCH "LONGEST_NAME" = some (some (.int 8 tk_LONGEST_NAME)))
  {tk_MOST_CENTS:Tok} (z_MOST_CENTS:zAF K zCH "MOST_CENTS" = some (some (.int 999999999999 tk_MOST_CENTS)))
  {tk_MOST_CLAUSES:Tok} (z_MOST_CLAUSES:zAF K zCH "MOST_CLAUSES" = some (some (.int 8 tk_MOST_CLAUSES)))
  {tk_MOST_COVERS:Tok} (z_MOST_COVERS:zAF K zCH "MOST_COVERS" = some (some (.int 8 tk_MOST_COVERS)))
  {tk_MOST_PLACES:Tok} (z_MOST_PLACES:zAF K zCH "MOST_PLACES" = some (some (.int 8 tk_MOST_PLACES)))
  {tk_MOST_TURNS:Tok} (z_MOST_TURNS:zAF K zCH "MOST_TURNS" = some (some (.int 100 tk_MOST_TURNS)))
  {tk_NUMBER:Tok} (z_NUMBER:zAF K zCH "NUMBER" = some (some (.int 0 tk_NUMBER)))
  {tk_THING:Tok} (z_THING:zAF K zCH "THING" = some (some (.int 3 tk_THING)))
  (z_bool:zAF K zCH "bool" = some none)
  (z_enumerate:zAF K zCH "enumerate" = some none)
  (z_int:zAF K zCH "int" = some none)
  (z_isinstance:zAF K zCH "isinstance" = some none)
  (z_len:zAF K zCH "len" = some none)
  (z_list:zAF K zCH "list" = some none)
  (z_max:zAF K zCH "max" = some none)
  (z_min:zAF K zCH "min" = some none)
  (z_range:zAF K zCH "range" = some none)
  (z_set:zAF K zCH "set" = some none)
  (z_sorted:zAF K zCH "sorted" = some none)
  (z_str:zAF K zCH "str" = some none)
  (z_sum:zAF K zCH "sum" = some none)
  (z_tuple:zAF K zCH "tuple" = some none)
  (z_zip:zAF K zCH "zip" = some none) :
  ∃ fd:zCG,(∀ (s:Shared) (v:Value),BindsTo s fd ⟨[v],[]⟩ [("_law_script",v)])/\∀ base:Heap,K.In base->base.Ns zCH mg->FnOk l.prog w K mg base Da 9 fa fd ["_law_script"] (V2 K):=by
 have e:=hfa.symm.trans (zAB X G d45.ns);cases e;have D_is_whole:=d0.df X G (ps:=["thing"]) fun _ _ _ _ _ _=>D9 fun _=>rfl;have D_has_letters_alone:=d1.df X G (ps:=["text"]) fun _ _ _ _ _ _=>D9 fun _=>rfl;have D_is_name:=d2.df X G (ps:=["thing"]) fun _ _ _ _ _ _=>D9 fun _=>rfl;have D_is_amount:=d3.df X G (ps:=["thing"]) fun _ _ _ _ _ _=>D9 fun _=>rfl;have D_year_of:=d4.df X G (ps:=["day"]) fun _ _ _ _ _ _=>D9 fun _=>rfl;have D_checked_amount:=d5.df X G (ps:=["thing"]) fun _ _ _ _ _ _=>D9 fun _=>rfl;have D_cent_at:=d6.df X G (ps:=["bound", "count", "cents"]) fun _ _ _ _ _ _=>E4 fun _ _ _=>rfl;have D_cut_within:=d7.df X G (ps:=["runs", "lo", "hi"]) fun _ _ _ _ _ _=>E4 fun _ _ _=>rfl;have D_lowest_of:=d8.df X G (ps:=["runs", "n"]) fun _ _ _ _ _ _=>Jc fun _ _=>rfl;have D_left_of_run:=d9.df X G (ps:=["run", "others"]) fun _ _ _ _ _ _=>Jc fun _ _=>rfl;have D_cut_out:=d10.df X G (ps:=["runs", "others"]) fun _ _ _ _ _ _=>Jc fun _ _=>rfl;have D_numbers_of:=d11.df X G (ps:=["cover", "counts", "loss"]) fun _ _ _ _ _ _=>E4 fun _ _ _=>rfl;have D_asked_of:=d12.df X G (ps:=["book", "loss"]) fun _ _ _ _ _ _=>Jc fun _ _=>rfl;have D_paid_runs:=d13.df X G (ps:=["cover", "numbers", "cents", "unpaid"]) fun _ _ _ _ _ _=>HM fun _ _ _ _=>rfl;have D_borne_strips:=d14.df X G (ps:=["cover", "numbers", "cents", "unpaid"]) fun _ _ _ _ _ _=>HM fun _ _ _ _=>rfl;have D_strips_of:=d15.df X G (ps:=["book", "counts", "loss"]) fun _ _ _ _ _ _=>E4 fun _ _ _=>rfl;have D_are_weights:=d16.df X G (ps:=["thing"]) fun _ _ _ _ _ _=>D9 fun _=>rfl
 have D_may_have:=d17.df X G (ps:=["weight", "dealt", "total", "turn"]) fun _ _ _ _ _ _=>HM fun _ _ _ _=>rfl;have D_due_by:=d18.df X G (ps:=["weight", "dealt", "total"]) fun _ _ _ _ _ _=>E4 fun _ _ _=>rfl;have D_place_of_turn:=d19.df X G (ps:=["weights", "dealt", "turn"]) fun _ _ _ _ _ _=>E4 fun _ _ _=>rfl;have D_turns:=d20.df X G (ps:=["weights"]) fun _ _ _ _ _ _=>D9 fun _=>rfl;have D_check_houses:=d21.df X G (ps:=["houses"]) fun _ _ _ _ _ _=>D9 fun _=>rfl;have D_first_without:=d22.df X G (ps:=["spans", "cent"]) fun _ _ _ _ _ _=>Jc fun _ _=>rfl;have D_bounds_of:=d23.df X G (ps:=["spans", "cents"]) fun _ _ _ _ _ _=>Jc fun _ _=>rfl;have D__law_cell:=d24.df X G (ps:=["_law_script", "_law_k"]) fun _ _ _ _ _ _=>Jc fun _ _=>rfl;have D__law_whole:=d25.df X G (ps:=["_law_found"]) fun _ _ _ _ _ _=>D9 fun _=>rfl;have D__law_spread:=d26.df X G (ps:=["_law_cell_here"]) fun _ _ _ _ _ _=>D9 fun _=>rfl;have D__law_names:=d27.df X G (ps:=["_law_cell_here", "_law_many"]) fun _ _ _ _ _ _=>Jc fun _ _=>rfl;have D__law_amount:=d28.df X G (ps:=["_law_digit", "_law_unit_here"]) fun _ _ _ _ _ _=>Jc fun _ _=>rfl;have D__law_world:=d29.df X G (ps:=["_law_script", "_law_most"]) fun _ _ _ _ _ _=>Jc fun _ _=>rfl;have D__law_unit:=d30.df X G (ps:=["_law_script"]) fun _ _ _ _ _ _=>D9 fun _=>rfl;have D__law_cond:=d31.df X G (ps:=["_law_cell_here", "_law_things", "_law_causes", "_law_unit_here"]) fun _ _ _ _ _ _=>HM fun _ _ _ _=>rfl;have D__law_drawn_clause:=d32.df X G (ps:=["_law_cell_here", "_law_unit_here"]) fun _ _ _ _ _ _=>Jc fun _ _=>rfl
 have D__law_covers:=d33.df X G (ps:=["_law_script", "_law_names_here", "_law_things", "_law_causes", "_law_unit_here"]) fun _ _ _ _ _ _=>PH fun _ _ _ _ _=>rfl;have D__law_loss:=d34.df X G (ps:=["_law_cell_here", "_law_world_here", "_law_unit_here"]) fun _ _ _ _ _ _=>E4 fun _ _ _=>rfl;have D__law_losses:=d35.df X G (ps:=["_law_script", "_law_many", "_law_world_here", "_law_unit_here"]) fun _ _ _ _ _ _=>HM fun _ _ _ _=>rfl;have D__law_key:=d36.df X G (ps:=["_law_by", "_law_loss_here"]) fun _ _ _ _ _ _=>Jc fun _ _=>rfl;have D__law_form:=d37.df X G (ps:=["_law_strips", "_law_cents"]) fun _ _ _ _ _ _=>Jc fun _ _=>rfl;have D__law_condition:=d38.df X G (ps:=["_law_cond_here"]) fun _ _ _ _ _ _=>D9 fun _=>rfl;have D__law_clause:=d39.df X G (ps:=["_law_clause_here"]) fun _ _ _ _ _ _=>D9 fun _=>rfl;have D__law_book:=d40.df X G (ps:=["_law_covers_here"]) fun _ _ _ _ _ _=>D9 fun _=>rfl;have D__law_state:=d41.df X G (ps:=["_law_covers_here", "_law_loss_here", "_law_cell_here", "_law_unit_here"]) fun _ _ _ _ _ _=>HM fun _ _ _ _=>rfl;have D__law_counts:=d42.df X G (ps:=["_law_had_of"]) fun _ _ _ _ _ _=>D9 fun _=>rfl;have D__law_paid_strips:=d43.df X G (ps:=["_law_strips", "_law_some"]) fun _ _ _ _ _ _=>Jc fun _ _=>rfl;have D__law_apart:=d44.df X G (ps:=["_law_strips", "_law_others"]) fun _ _ _ _ _ _=>Jc fun _ _=>rfl;obtain⟨od45,an45,sl45,oc45,kV45,dc45,pm45,cd45,ct45,l45,c45⟩:=d45.ex;have F45:=N1 (x := "law") (qual := "law") (st:=Qv) l45 c45 d45.kp;obtain⟨_,F_Condition_holds,B_Condition_holds⟩:=iCondition_holds.get (ps:=["self", "loss"]) fun _ _ _ _ _ _=>Jc fun _ _=>rfl
 obtain⟨_,F_CauseIs___init__,B_CauseIs___init__⟩:=iCauseIs___init__.get (ps:=["self", "name"]) fun _ _ _ _ _ _=>Jc fun _ _=>rfl;obtain⟨_,F_CauseIs_holds,B_CauseIs_holds⟩:=iCauseIs_holds.get (ps:=["self", "loss"]) fun _ _ _ _ _ _=>Jc fun _ _=>rfl;obtain⟨_,F_ThingIs___init__,B_ThingIs___init__⟩:=iThingIs___init__.get (ps:=["self", "name"]) fun _ _ _ _ _ _=>Jc fun _ _=>rfl;obtain⟨_,F_ThingIs_holds,B_ThingIs_holds⟩:=iThingIs_holds.get (ps:=["self", "loss"]) fun _ _ _ _ _ _=>Jc fun _ _=>rfl;obtain⟨_,F_DaysIn___init__,B_DaysIn___init__⟩:=iDaysIn___init__.get (ps:=["self", "first", "last"]) fun _ _ _ _ _ _=>E4 fun _ _ _=>rfl;obtain⟨_,F_DaysIn_holds,B_DaysIn_holds⟩:=iDaysIn_holds.get (ps:=["self", "loss"]) fun _ _ _ _ _ _=>Jc fun _ _=>rfl;obtain⟨_,F_Over___init__,B_Over___init__⟩:=iOver___init__.get (ps:=["self", "cents"]) fun _ _ _ _ _ _=>Jc fun _ _=>rfl;obtain⟨_,F_Over_holds,B_Over_holds⟩:=iOver_holds.get (ps:=["self", "loss"]) fun _ _ _ _ _ _=>Jc fun _ _=>rfl;obtain⟨_,F_Not___init__,B_Not___init__⟩:=iNot___init__.get (ps:=["self", "part"]) fun _ _ _ _ _ _=>Jc fun _ _=>rfl;obtain⟨_,F_Not_holds,B_Not_holds⟩:=iNot_holds.get (ps:=["self", "loss"]) fun _ _ _ _ _ _=>Jc fun _ _=>rfl;obtain⟨_,F_All___init__,B_All___init__⟩:=iAll___init__.get (ps:=["self", "several"]) fun _ _ _ _ _ _=>Jc fun _ _=>rfl;obtain⟨_,F_All_holds,B_All_holds⟩:=iAll_holds.get (ps:=["self", "loss"]) fun _ _ _ _ _ _=>Jc fun _ _=>rfl;obtain⟨_,F_Some___init__,B_Some___init__⟩:=iSome___init__.get (ps:=["self", "several"]) fun _ _ _ _ _ _=>Jc fun _ _=>rfl
 obtain⟨_,F_Some_holds,B_Some_holds⟩:=iSome_holds.get (ps:=["self", "loss"]) fun _ _ _ _ _ _=>Jc fun _ _=>rfl;obtain⟨_,F_Clause___init__,B_Clause___init__⟩:=iClause___init__.get (ps:=["self", "by"]) fun _ _ _ _ _ _=>Jc fun _ _=>rfl;obtain⟨_,F_Clause_span,B_Clause_span⟩:=iClause_span.get (ps:=["self", "count", "cents"]) fun _ _ _ _ _ _=>E4 fun _ _ _=>rfl;obtain⟨_,F_Clause_room,B_Clause_room⟩:=iClause_room.get (ps:=["self", "paid"]) fun _ _ _ _ _ _=>Jc fun _ _=>rfl;obtain⟨_,F_Clause_key,B_Clause_key⟩:=iClause_key.get (ps:=["self", "loss"]) fun _ _ _ _ _ _=>Jc fun _ _=>rfl;obtain⟨_,F_Own___init__,B_Own___init__⟩:=iOwn___init__.get (ps:=["self", "by", "cents"]) fun _ _ _ _ _ _=>E4 fun _ _ _=>rfl;obtain⟨_,F_Own_span,B_Own_span⟩:=iOwn_span.get (ps:=["self", "count", "cents"]) fun _ _ _ _ _ _=>E4 fun _ _ _=>rfl;obtain⟨_,F_Layer___init__,B_Layer___init__⟩:=iLayer___init__.get (ps:=["self", "by", "first", "upto"]) fun _ _ _ _ _ _=>HM fun _ _ _ _=>rfl;obtain⟨_,F_Layer_span,B_Layer_span⟩:=iLayer_span.get (ps:=["self", "count", "cents"]) fun _ _ _ _ _ _=>E4 fun _ _ _=>rfl;obtain⟨_,F_Limit___init__,B_Limit___init__⟩:=iLimit___init__.get (ps:=["self", "by", "most"]) fun _ _ _ _ _ _=>E4 fun _ _ _=>rfl;obtain⟨_,F_Limit_room,B_Limit_room⟩:=iLimit_room.get (ps:=["self", "paid"]) fun _ _ _ _ _ _=>Jc fun _ _=>rfl;obtain⟨_,F_Deal___init__,B_Deal___init__⟩:=iDeal___init__.get (ps:=["self", "weights"]) fun _ _ _ _ _ _=>Jc fun _ _=>rfl;have F_Cover___init__:=GY (x := "__init__") (qual := "Cover.__init__") (st:=Ce) lCover___init__ cCover___init__ kCover___init__
 have B_Cover___init__:Binds K _ ["self", "name", "condition", "clauses", "houses", "waits"] []:=fun s us X hl=>by
  rw[zAN] at hl ⊢
  match us,hl with | [_,_,_,_,_,_],_=>exact BindsTo.of_defaults (fd:=zAW "__init__" "Cover.__init__" (Dk Ce) (Df Ce) (As Ce) (.ref dvCover___init__) kVCover___init__ dcCover___init__ pmCover___init__ anCover___init__ cdCover___init__ ctCover___init__) rfl (X _ _ dlCover___init__) rfl rfl rfl
 obtain⟨_,F_Cover_asks,B_Cover_asks⟩:=iCover_asks.get (ps:=["self", "loss"]) fun _ _ _ _ _ _=>Jc fun _ _=>rfl;obtain⟨_,F_Cover_spans,B_Cover_spans⟩:=iCover_spans.get (ps:=["self", "counts", "cents"]) fun _ _ _ _ _ _=>E4 fun _ _ _=>rfl;obtain⟨_,F_Cover_window,B_Cover_window⟩:=iCover_window.get (ps:=["self", "counts", "cents"]) fun _ _ _ _ _ _=>E4 fun _ _ _=>rfl;obtain⟨_,F_Cover_parts,B_Cover_parts⟩:=iCover_parts.get (ps:=["self", "counts", "cents"]) fun _ _ _ _ _ _=>E4 fun _ _ _=>rfl;obtain⟨_,F_Cover_rest,B_Cover_rest⟩:=iCover_rest.get (ps:=["self", "counts"]) fun _ _ _ _ _ _=>Jc fun _ _=>rfl;obtain⟨_,F_Book___init__,B_Book___init__⟩:=iBook___init__.get (ps:=["self", "covers"]) fun _ _ _ _ _ _=>Jc fun _ _=>rfl;obtain⟨_,F_Counts___init__,B_Counts___init__⟩:=iCounts___init__.get (ps:=["self"]) fun _ _ _ _ _ _=>D9 fun _=>rfl;obtain⟨_,F_Counts_have,B_Counts_have⟩:=iCounts_have.get (ps:=["self", "name", "k", "key"]) fun _ _ _ _ _ _=>HM fun _ _ _ _=>rfl;obtain⟨_,F_Counts_add,B_Counts_add⟩:=iCounts_add.get (ps:=["self", "name", "k", "key", "cents"]) fun _ _ _ _ _ _=>PH fun _ _ _ _ _=>rfl;have H_Condition_holds:Ei K Ac "holds" fCondition_holds:=⟨a_Condition_holds,iCondition_holds.fn,iCondition_holds.kp⟩;have H_CauseIs_make:Mk K Ag fCauseIs___init__:=⟨q_CauseIs.mi,a_CauseIs___init__,iCauseIs___init__.fn,q_CauseIs.kp⟩;have H_CauseIs_holds:Ei K Ag "holds" fCauseIs_holds:=⟨a_CauseIs_holds,iCauseIs_holds.fn,iCauseIs_holds.kp⟩;have H_ThingIs_make:Mk K Ah fThingIs___init__:=⟨q_ThingIs.mi,a_ThingIs___init__,iThingIs___init__.fn,q_ThingIs.kp⟩
 have H_ThingIs_holds:Ei K Ah "holds" fThingIs_holds:=⟨a_ThingIs_holds,iThingIs_holds.fn,iThingIs_holds.kp⟩;have H_DaysIn_make:Mk K Am fDaysIn___init__:=⟨q_DaysIn.mi,a_DaysIn___init__,iDaysIn___init__.fn,q_DaysIn.kp⟩;have H_DaysIn_holds:Ei K Am "holds" fDaysIn_holds:=⟨a_DaysIn_holds,iDaysIn_holds.fn,iDaysIn_holds.kp⟩;have H_Over_make:Mk K Au fOver___init__:=⟨q_Over.mi,a_Over___init__,iOver___init__.fn,q_Over.kp⟩;have H_Over_holds:Ei K Au "holds" fOver_holds:=⟨a_Over_holds,iOver_holds.fn,iOver_holds.kp⟩;have H_Not_make:Mk K Bb fNot___init__:=⟨q_Not.mi,a_Not___init__,iNot___init__.fn,q_Not.kp⟩;have H_Not_holds:Ei K Bb "holds" fNot_holds:=⟨a_Not_holds,iNot_holds.fn,iNot_holds.kp⟩;have H_All_make:Mk K Ba fAll___init__:=⟨q_All.mi,a_All___init__,iAll___init__.fn,q_All.kp⟩;have H_All_holds:Ei K Ba "holds" fAll_holds:=⟨a_All_holds,iAll_holds.fn,iAll_holds.kp⟩;have H_Some_make:Mk K At fSome___init__:=⟨q_Some.mi,a_Some___init__,iSome___init__.fn,q_Some.kp⟩;have H_Some_holds:Ei K At "holds" fSome_holds:=⟨a_Some_holds,iSome_holds.fn,iSome_holds.kp⟩;have H_Clause_make:Mk K Ad fClause___init__:=⟨q_Clause.mi,a_Clause___init__,iClause___init__.fn,q_Clause.kp⟩;have H_Clause_span:Ei K Ad "span" fClause_span:=⟨a_Clause_span,iClause_span.fn,iClause_span.kp⟩;have H_Clause_room:Ei K Ad "room" fClause_room:=⟨a_Clause_room,iClause_room.fn,iClause_room.kp⟩;have H_Clause_key:Ei K Ad "key" fClause_key:=⟨a_Clause_key,iClause_key.fn,iClause_key.kp⟩;have H_Own_make:Mk K Aw fOwn___init__:=⟨q_Own.mi,a_Own___init__,iOwn___init__.fn,q_Own.kp⟩
 have H_Own_span:Ei K Aw "span" fOwn_span:=⟨a_Own_span,iOwn_span.fn,iOwn_span.kp⟩;have H_Own_room:Ei K Aw "room" fClause_room:=⟨a_Own_room,iClause_room.fn,iClause_room.kp⟩;have H_Own_key:Ei K Aw "key" fClause_key:=⟨a_Own_key,iClause_key.fn,iClause_key.kp⟩;have H_Layer_make:Mk K Ak fLayer___init__:=⟨q_Layer.mi,a_Layer___init__,iLayer___init__.fn,q_Layer.kp⟩;have H_Layer_span:Ei K Ak "span" fLayer_span:=⟨a_Layer_span,iLayer_span.fn,iLayer_span.kp⟩;have H_Layer_room:Ei K Ak "room" fClause_room:=⟨a_Layer_room,iClause_room.fn,iClause_room.kp⟩;have H_Layer_key:Ei K Ak "key" fClause_key:=⟨a_Layer_key,iClause_key.fn,iClause_key.kp⟩;have H_Limit_make:Mk K Aj fLimit___init__:=⟨q_Limit.mi,a_Limit___init__,iLimit___init__.fn,q_Limit.kp⟩;have H_Limit_span:Ei K Aj "span" fClause_span:=⟨a_Limit_span,iClause_span.fn,iClause_span.kp⟩;have H_Limit_room:Ei K Aj "room" fLimit_room:=⟨a_Limit_room,iLimit_room.fn,iLimit_room.kp⟩;have H_Limit_key:Ei K Aj "key" fClause_key:=⟨a_Limit_key,iClause_key.fn,iClause_key.kp⟩;have H_Deal_make:Mk K Bg fDeal___init__:=⟨q_Deal.mi,a_Deal___init__,iDeal___init__.fn,q_Deal.kp⟩;have H_Cover_make:Mk K Ai fCover___init__:=⟨q_Cover.mi,a_Cover___init__,iCover___init__,q_Cover.kp⟩;have H_Cover_asks:Ei K Ai "asks" fCover_asks:=⟨a_Cover_asks,iCover_asks.fn,iCover_asks.kp⟩;have H_Cover_spans:Ei K Ai "spans" fCover_spans:=⟨a_Cover_spans,iCover_spans.fn,iCover_spans.kp⟩;have H_Cover_window:Ei K Ai "window" fCover_window:=⟨a_Cover_window,iCover_window.fn,iCover_window.kp⟩
 have H_Cover_parts:Ei K Ai "parts" fCover_parts:=⟨a_Cover_parts,iCover_parts.fn,iCover_parts.kp⟩;have H_Cover_rest:Ei K Ai "rest" fCover_rest:=⟨a_Cover_rest,iCover_rest.fn,iCover_rest.kp⟩;have H_Book_make:Mk K Az fBook___init__:=⟨q_Book.mi,a_Book___init__,iBook___init__.fn,q_Book.kp⟩;have H_Counts_make:Mk K Aq fCounts___init__:=⟨q_Counts.mi,a_Counts___init__,iCounts___init__.fn,q_Counts.kp⟩;have H_Counts_have:Ei K Aq "have" fCounts_have:=⟨a_Counts_have,iCounts_have.fn,iCounts_have.kp⟩;have H_Counts_add:Ei K Aq "add" fCounts_add:=⟨a_Counts_add,iCounts_add.fn,iCounts_add.kp⟩;have Z_Clause___init__:EQ K Ad "__init__" fClause___init__:=⟨bg_Clause___init__,br_Clause___init__,bf_Clause___init__,iClause___init__.kp⟩;have NCondition:NF K mg "Condition" Ac:=⟨q_Condition.mi,ni_Condition,q_Condition.kp,zAB X G q_Condition.ns⟩;have L:Kl K mg Ac Ag Ah Am Au Bb Ba At Ad Aw Ak Aj Bg Ai Az Aq:=⟨zAB X G q_Condition.ns,q_Condition.cl,zAB X G q_CauseIs.ns,q_CauseIs.cl,na_CauseIs_name,zAB X G q_ThingIs.ns,q_ThingIs.cl,na_ThingIs_name,zAB X G q_DaysIn.ns,q_DaysIn.cl,na_DaysIn_first,na_DaysIn_last,zAB X G q_Over.ns,q_Over.cl,na_Over_cents,zAB X G q_Not.ns,q_Not.cl,na_Not_part,zAB X G q_All.ns,q_All.cl,na_All_several,zAB X G q_Some.ns,q_Some.cl,na_Some_several,zAB X G q_Clause.ns,q_Clause.cl,na_Clause_by,fun e=>.ins e q_Clause.cl ha_Clause gs tk hm_Clause,zAB X G q_Own.ns,q_Own.cl,na_Own_cents,na_Own_by,fun e=>.ins e q_Own.cl ha_Own gs tk hm_Own,zAB X G q_Layer.ns,q_Layer.cl,na_Layer_first,na_Layer_upto,na_Layer_by,fun e=>.ins e q_Layer.cl ha_Layer gs tk hm_Layer,zAB X G q_Limit.ns,q_Limit.cl,na_Limit_most,na_Limit_by,fun e=>.ins e q_Limit.cl ha_Limit gs tk hm_Limit,zAB X G q_Deal.ns,q_Deal.cl,na_Deal_wheel,na_Deal_weights,zAB X G q_Cover.ns,q_Cover.cl,na_Cover_name,na_Cover_condition,na_Cover_clauses,na_Cover_houses,na_Cover_deal,na_Cover_waits,zAB X G q_Book.ns,q_Book.cl,na_Book_covers,na_Book_asking,zAB X G q_Counts.ns,q_Counts.cl,na_Counts_kept,kt_Clause_Limit,kt_Own_Limit,kt_Layer_Limit,kt_Limit_Limit,nd_C⟩
 have T:Txt K mg:=⟨⟨tk_CAUSE,zAB X G z_CAUSE⟩,⟨tk_CENTS,zAB X G z_CENTS⟩,⟨tk_COVERED_ONE,zAB X G z_COVERED_ONE⟩,⟨tk_DAY,zAB X G z_DAY⟩,⟨tk_DAYS_OF_YEAR,zAB X G z_DAYS_OF_YEAR⟩,⟨tk_EVENT,zAB X G z_EVENT⟩,⟨tk_LETTERS,zAB X G z_LETTERS⟩,⟨tk_LONGEST_NAME,zAB X G z_LONGEST_NAME⟩,⟨tk_MOST_CENTS,zAB X G z_MOST_CENTS⟩,⟨tk_MOST_CLAUSES,zAB X G z_MOST_CLAUSES⟩,⟨tk_MOST_COVERS,zAB X G z_MOST_COVERS⟩,⟨tk_MOST_PLACES,zAB X G z_MOST_PLACES⟩,⟨tk_MOST_TURNS,zAB X G z_MOST_TURNS⟩,⟨tk_NUMBER,zAB X G z_NUMBER⟩,⟨tk_THING,zAB X G z_THING⟩,zAP X G z_bool,zAP X G z_enumerate,zAP X G z_int,zAP X G z_isinstance,zAP X G z_len,zAP X G z_list,zAP X G z_max,zAP X G z_min,zAP X G z_range,zAP X G z_set,zAP X G z_sorted,zAP X G z_str,zAP X G z_sum,zAP X G z_tuple,zAP X G z_zip,⟨w_WAYS,zAB X G z_WAYS,fun H=>.inr ⟨_,_,_,lw_WAYS,rfl,rfl,by show 4<=sizeLine; rw[zCE]; decide,.cons ⟨_,rfl⟩ (.cons ⟨_,rfl⟩ (.cons ⟨_,rfl⟩ (.cons ⟨_,rfl⟩ (.nil))))⟩⟩⟩;refine⟨zAW "law" "law" (Dk Qv) (Df Qv) (As Qv) .none kV45 dc45 pm45 an45 cd45 ct45,fun s v=>.of_eq rfl,fun base _ _=>?_⟩;have Cis_whole:Cq l.prog w K mg base 1 "is_whole" ["thing"] (Iw K):=D_is_whole.cal fun f fd F=>E3 F T;have Cis_amount:Cq l.prog w K mg base 2 "is_amount" ["thing"] (BU K 999999999999):=D_is_amount.cal fun f fd F=>Xi F T Cis_whole;have Cchecked_amount:Cq l.prog w K mg base 3 "checked_amount" ["thing"] Zk:=D_checked_amount.cal fun f fd F=>Mz F T Cis_amount;have BClause___init__:CK l.prog w K mg base 2 "Clause" "__init__" ["self", "by"] (CG Ad Aw Ak Aj):=⟨_,_,_,Lh F_Clause___init__ T L,B_Clause___init__,Z_Clause___init__,L.mg_Clause⟩
 have KOwn:Ej l.prog w K mg base 4 "Own" Aw ["self", "by", "cents"] (CF Ad Aw Ak Aj):=⟨_,_,H_Own_make,Pg F_Own___init__ T L BClause___init__ Cchecked_amount,B_Own___init__,L.mg_Own⟩;have KLayer:Ej l.prog w K mg base 4 "Layer" Ak ["self", "by", "first", "upto"] (BY Ad Aw Ak Aj):=⟨_,_,H_Layer_make,Nd F_Layer___init__ T L BClause___init__ Cchecked_amount,B_Layer___init__,L.mg_Layer⟩;have KLimit:Ej l.prog w K mg base 4 "Limit" Aj ["self", "by", "most"] (DE Ad Aw Ak Aj):=⟨_,_,H_Limit_make,Mi F_Limit___init__ T L BClause___init__ Cchecked_amount,B_Limit___init__,L.mg_Limit⟩;have Ccent_at:Cq l.prog w K mg base 1 "cent_at" ["bound", "count", "cents"] Xu:=D_cent_at.cal fun f fd F=>M7 F T;have Mroom:Ph l.prog w K mg base 1 (Fam Ad Aw Ak Aj) "room" ["self", "paid"] (Xt Ad Aw Ak Aj):=⟨fun C hC=>by
  rcases hC with rfl | rfl | rfl | rfl
  ·exact⟨⟨_,_,Gg F_Clause_room T (fun c h n=>by obtain⟨y,rfl⟩:=U6 L h; rfl),B_Clause_room,H_Clause_room⟩,L.cl_Clause⟩
  ·exact⟨⟨_,_,Gg F_Clause_room T (fun c h n=>by obtain⟨y,d,rfl⟩:=Q6 L h; rfl),B_Clause_room,H_Own_room⟩,L.cl_Own⟩
  ·exact⟨⟨_,_,Gg F_Clause_room T (fun c h n=>by obtain⟨y,a,b,rfl⟩:=T9 L h; rfl),B_Clause_room,H_Layer_room⟩,L.cl_Layer⟩
  ·exact⟨⟨_,_,Tv F_Limit_room T L,B_Limit_room,H_Limit_room⟩,L.cl_Limit⟩⟩
 have Mspan:Ph l.prog w K mg base 2 (Fam Ad Aw Ak Aj) "span" ["self", "count", "cents"] (Sm Ad Aw Ak Aj):=⟨fun C hC=>by
  rcases hC with rfl | rfl | rfl | rfl
  ·exact⟨⟨_,_,Ka F_Clause_span T (fun c h n k=>by obtain⟨y,rfl⟩:=U6 L h; exact⟨rfl,rfl⟩),B_Clause_span,H_Clause_span⟩,L.cl_Clause⟩
  ·exact⟨⟨_,_,Zf F_Own_span T L Ccent_at,B_Own_span,H_Own_span⟩,L.cl_Own⟩
  ·exact⟨⟨_,_,Uc F_Layer_span T L Ccent_at,B_Layer_span,H_Layer_span⟩,L.cl_Layer⟩
  ·exact⟨⟨_,_,Ka F_Clause_span T (fun c h n k=>by obtain⟨y,m,rfl⟩:=Q7 L h; exact⟨rfl,rfl⟩),B_Clause_span,H_Limit_span⟩,L.cl_Limit⟩⟩
 have Care_weights:Cq l.prog w K mg base 2 "are_weights" ["thing"] BS:=D_are_weights.cal fun f fd F=>Rp F T Cis_whole;have Cmay_have:Cq l.prog w K mg base 1 "may_have" ["weight", "dealt", "total", "turn"] M1:=D_may_have.cal fun f fd F=>Zz F T;have Cdue_by:Cq l.prog w K mg base 1 "due_by" ["weight", "dealt", "total"] I0:=D_due_by.cal fun f fd F=>AN F T;have Cplace_of_turn:Cq l.prog w K mg base 2 "place_of_turn" ["weights", "dealt", "turn"] CU:=D_place_of_turn.cal fun f fd F=>Nj F T Cmay_have Cdue_by;have Cturns:Cq l.prog w K mg base 3 "turns" ["weights"] DW:=D_turns.cal fun f fd F=>CI F T Care_weights Cplace_of_turn;have KDeal:Ej l.prog w K mg base 4 "Deal" Bg ["self", "weights"] (DS Bg):=⟨_,_,H_Deal_make,Nm F_Deal___init__ T L Cturns,B_Deal___init__,L.mg_Deal⟩;have Chas_letters_alone:Cq l.prog w K mg base 1 "has_letters_alone" ["text"] CA:=D_has_letters_alone.cal fun f fd F=>Js F T;have Cis_name:Cq l.prog w K mg base 2 "is_name" ["thing"] (Ws K):=D_is_name.cal fun f fd F=>L7 F T Chas_letters_alone;have Ccheck_houses:Cq l.prog w K mg base 3 "check_houses" ["houses"] ED:=D_check_houses.cal fun f fd F=>Pf F T Cis_name;have KCover:Ej l.prog w K mg base 6 "Cover" Ai ["self", "name", "condition", "clauses", "houses", "waits"] (O2 Ai):=⟨_,_,H_Cover_make,Mv F_Cover___init__ T L Cis_name Ccheck_houses KDeal,B_Cover___init__,L.mg_Cover⟩;have KBook:Ej l.prog w K mg base 1 "Book" Az ["self", "covers"] (Yf Ai Az):=⟨_,_,H_Book_make,Nr F_Book___init__ T L,B_Book___init__,L.mg_Book⟩
 have KCounts:Ej l.prog w K mg base 1 "Counts" Aq ["self"] (EF Aq):=⟨_,_,H_Counts_make,Lg F_Counts___init__ T L,B_Counts___init__,L.mg_Counts⟩;have Mhave:Ix l.prog w K mg base 1 Aq "have" ["self", "name", "k", "key"] (Xb Aq):=⟨⟨_,_,Sz F_Counts_have T L,B_Counts_have,H_Counts_have⟩,L.cl_Counts⟩;have Madd:Ix l.prog w K mg base 2 Aq "add" ["self", "name", "k", "key", "cents"] (AV Aq):=⟨⟨_,_,Uj F_Counts_add T L Mhave,B_Counts_add,H_Counts_add⟩,L.cl_Counts⟩;have Cfirst_without:Cq l.prog w K mg base 1 "first_without" ["spans", "cent"] KI:=D_first_without.cal fun f fd F=>Ny F T;have Cbounds_of:Cq l.prog w K mg base 1 "bounds_of" ["spans", "cents"] EM:=D_bounds_of.cal fun f fd F=>Yl F T;have Mspans:Ix l.prog w K mg base 3 Ai "spans" ["self", "counts", "cents"] (Qh Ad Aw Ak Aj Ai):=⟨⟨_,_,Sw F_Cover_spans T L Mspan,B_Cover_spans,H_Cover_spans⟩,L.cl_Cover⟩;have Mwindow:Ix l.prog w K mg base 4 Ai "window" ["self", "counts", "cents"] (DG Ad Aw Ak Aj Ai):=⟨⟨_,_,Pd F_Cover_window T L Mspans,B_Cover_window,H_Cover_window⟩,L.cl_Cover⟩;have Mparts:Ix l.prog w K mg base 4 Ai "parts" ["self", "counts", "cents"] (DH Ad Aw Ak Aj Ai):=⟨⟨_,_,Sg F_Cover_parts T L Mspans Cbounds_of Cfirst_without,B_Cover_parts,H_Cover_parts⟩,L.cl_Cover⟩;have Mrest:Ix l.prog w K mg base 2 Ai "rest" ["self", "counts"] (Xn Ad Aw Ak Aj Ai):=⟨⟨_,_,Ud F_Cover_rest T L Mroom,B_Cover_rest,H_Cover_rest⟩,L.cl_Cover⟩;have Mholds:∀ m,Ph l.prog w K mg base m (A8.Fam (A8.mk Ac Ag Ah Am Au Bb Ba At)) "holds" ["self", "loss"] (Ds (A8.mk Ac Ag Ah Am Au Bb Ba At) m):=by
  intro m
  induction m with
  | zero=>
   refine⟨fun C hC=>?_⟩;rcases hC with rfl | rfl | rfl | rfl | rfl | rfl | rfl | rfl
   ·exact⟨⟨_,_,GH fun _ _ _ _=>Fj,B_Condition_holds,H_Condition_holds⟩,L.cl_Condition⟩
   ·exact⟨⟨_,_,GH fun _ _ _ _=>Fj,B_CauseIs_holds,H_CauseIs_holds⟩,L.cl_CauseIs⟩
   ·exact⟨⟨_,_,GH fun _ _ _ _=>Fj,B_ThingIs_holds,H_ThingIs_holds⟩,L.cl_ThingIs⟩
   ·exact⟨⟨_,_,GH fun _ _ _ _=>Fj,B_DaysIn_holds,H_DaysIn_holds⟩,L.cl_DaysIn⟩
   ·exact⟨⟨_,_,GH fun _ _ _ _=>Fj,B_Over_holds,H_Over_holds⟩,L.cl_Over⟩
   ·exact⟨⟨_,_,GH fun _ _ _ _=>Fj,B_Not_holds,H_Not_holds⟩,L.cl_Not⟩
   ·exact⟨⟨_,_,GH fun _ _ _ _=>Fj,B_All_holds,H_All_holds⟩,L.cl_All⟩
   ·exact⟨⟨_,_,GH fun _ _ _ _=>Fj,B_Some_holds,H_Some_holds⟩,L.cl_Some⟩
  | succ m ih=>
   refine⟨fun C hC=>?_⟩;have m1:1<=m+1:=Nat.succ_le_succ (zAD _);rcases hC with rfl | rfl | rfl | rfl | rfl | rfl | rfl | rfl
   ·exact⟨⟨_,_,(Ln F_Condition_holds L).mono m1,B_Condition_holds,H_Condition_holds⟩,L.cl_Condition⟩
   ·exact⟨⟨_,_,(Oi F_CauseIs_holds T L).mono m1,B_CauseIs_holds,H_CauseIs_holds⟩,L.cl_CauseIs⟩
   ·exact⟨⟨_,_,(Oa F_ThingIs_holds T L).mono m1,B_ThingIs_holds,H_ThingIs_holds⟩,L.cl_ThingIs⟩
   ·exact⟨⟨_,_,(Pk F_DaysIn_holds T L).mono m1,B_DaysIn_holds,H_DaysIn_holds⟩,L.cl_DaysIn⟩
   ·exact⟨⟨_,_,(Tz F_Over_holds T L).mono m1,B_Over_holds,H_Over_holds⟩,L.cl_Over⟩
   ·exact⟨⟨_,_,We F_Not_holds L ih,B_Not_holds,H_Not_holds⟩,L.cl_Not⟩
   ·exact⟨⟨_,_,Yq F_All_holds L ih,B_All_holds,H_All_holds⟩,L.cl_All⟩
   ·exact⟨⟨_,_,Uk F_Some_holds L ih,B_Some_holds,H_Some_holds⟩,L.cl_Some⟩
 have KCauseIs:Ej l.prog w K mg base 1 "CauseIs" Ag ["self", "name"] (Iy Ag "name"):=⟨_,_,H_CauseIs_make,Km F_CauseIs___init__ L,B_CauseIs___init__,L.mg_CauseIs⟩;have KThingIs:Ej l.prog w K mg base 1 "ThingIs" Ah ["self", "name"] (Iy Ah "name"):=⟨_,_,H_ThingIs_make,Kr F_ThingIs___init__ L,B_ThingIs___init__,L.mg_ThingIs⟩;have KDaysIn:Ej l.prog w K mg base 1 "DaysIn" Am ["self", "first", "last"] (CJ Am):=⟨_,_,H_DaysIn_make,Lb F_DaysIn___init__ L,B_DaysIn___init__,L.mg_DaysIn⟩;have KOver:Ej l.prog w K mg base 1 "Over" Au ["self", "cents"] (Iy Au "cents"):=⟨_,_,H_Over_make,No F_Over___init__ L,B_Over___init__,L.mg_Over⟩;have KNot:Ej l.prog w K mg base 1 "Not" Bb ["self", "part"] (Iy Bb "part"):=⟨_,_,H_Not_make,Po F_Not___init__ L,B_Not___init__,L.mg_Not⟩;have KAll:Ej l.prog w K mg base 1 "All" Ba ["self", "several"] (Vo Ba):=⟨_,_,H_All_make,Pt F_All___init__ T L,B_All___init__,L.mg_All⟩;have KSome:Ej l.prog w K mg base 1 "Some" At ["self", "several"] (Vo At):=⟨_,_,H_Some_make,Nx F_Some___init__ T L,B_Some___init__,L.mg_Some⟩;have Cyear_of:Cq l.prog w K mg base 1 "year_of" ["day"] F0:=D_year_of.cal fun f fd F=>G6 F T;have Mkey:Ph l.prog w K mg base 2 (Fam Ad Aw Ak Aj) "key" ["self", "loss"] (CW Ad Aw Ak Aj):=⟨fun C hC=>by
  rcases hC with rfl | rfl | rfl | rfl
  ·exact⟨⟨_,_,Fi F_Clause_key T L Cyear_of,B_Clause_key,H_Clause_key⟩,L.cl_Clause⟩
  ·exact⟨⟨_,_,Fi F_Clause_key T L Cyear_of,B_Clause_key,H_Own_key⟩,L.cl_Own⟩
  ·exact⟨⟨_,_,Fi F_Clause_key T L Cyear_of,B_Clause_key,H_Layer_key⟩,L.cl_Layer⟩
  ·exact⟨⟨_,_,Fi F_Clause_key T L Cyear_of,B_Clause_key,H_Limit_key⟩,L.cl_Limit⟩⟩
 have Masks:Ix l.prog w K mg base 5 Ai "asks" ["self", "loss"] (E6 (A8.mk Ac Ag Ah Am Au Bb Ba At) Ad Aw Ak Aj Ai 4):=⟨⟨_,_,Ts F_Cover_asks T L (Mholds 4),B_Cover_asks,H_Cover_asks⟩,L.cl_Cover⟩;have Cnumbers_of:Cq l.prog w K mg base 3 "numbers_of" ["cover", "counts", "loss"] (N0 (A8.mk Ac Ag Ah Am Au Bb Ba At) Ad Aw Ak Aj Ai Aq):=D_numbers_of.cal fun f fd F=>Ul F T L Mkey Mhave;have Casked_of:Cq l.prog w K mg base 6 "asked_of" ["book", "loss"] (Yh (A8.mk Ac Ag Ah Am Au Bb Ba At) Ad Aw Ak Aj Ai Az 4):=D_asked_of.cal fun f fd F=>Zm F T L Masks;have Ccut_within:Cq l.prog w K mg base 1 "cut_within" ["runs", "lo", "hi"] P4:=D_cut_within.cal fun f fd F=>Tq F T;have Clowest_of:Cq l.prog w K mg base 1 "lowest_of" ["runs", "n"] Ra:=D_lowest_of.cal fun f fd F=>Xf F T;have Cleft_of_run:Cq l.prog w K mg base 1 "left_of_run" ["run", "others"] M6:=D_left_of_run.cal fun f fd F=>Qt F T;have Ccut_out:Cq l.prog w K mg base 2 "cut_out" ["runs", "others"] AT:=D_cut_out.cal fun f fd F=>E9 F T Cleft_of_run;have Cpaid_runs:Cq l.prog w K mg base 5 "paid_runs" ["cover", "numbers", "cents", "unpaid"] (O6 (A8.mk Ac Ag Ah Am Au Bb Ba At) Ad Aw Ak Aj Ai):=D_paid_runs.cal fun f fd F=>Xh F T Mwindow Mrest Ccut_within Clowest_of;have Cborne_strips:Cq l.prog w K mg base 5 "borne_strips" ["cover", "numbers", "cents", "unpaid"] (Wa (A8.mk Ac Ag Ah Am Au Bb Ba At) Ad Aw Ak Aj Ai):=D_borne_strips.cal fun f fd F=>Pp F T L Mparts Mrest Ccut_within;have Cstrips_of:Cq l.prog w K mg base 7 "strips_of" ["book", "counts", "loss"] (Rt (A8.mk Ac Ag Ah Am Au Bb Ba At) Ad Aw Ak Aj Ai Az Aq):=D_strips_of.cal fun f fd F=>Wp F T L Casked_of Cnumbers_of Cpaid_runs Cborne_strips Ccut_out
 have C_law_cell:Cq l.prog w K mg base 1 "_law_cell" ["_law_script", "_law_k"] (Nu K):=D__law_cell.cal fun f fd F=>Yp F T;have C_law_whole:Cq l.prog w K mg base 1 "_law_whole" ["_law_found"] (Iw K):=D__law_whole.cal fun f fd F=>To F T;have C_law_spread:Cq l.prog w K mg base 1 "_law_spread" ["_law_cell_here"] Jn:=D__law_spread.cal fun f fd F=>Su F T;have C_law_names:Cq l.prog w K mg base 1 "_law_names" ["_law_cell_here", "_law_many"] Wk:=D__law_names.cal fun f fd F=>Tw F T;have C_law_amount:Cq l.prog w K mg base 1 "_law_amount" ["_law_digit", "_law_unit_here"] A4:=D__law_amount.cal fun f fd F=>Th F T;have C_law_unit:Cq l.prog w K mg base 2 "_law_unit" ["_law_script"] (J3 K):=D__law_unit.cal fun f fd F=>Xv F T C_law_cell C_law_spread;have C_law_key:Cq l.prog w K mg base 1 "_law_key" ["_law_by", "_law_loss_here"] M5:=D__law_key.cal fun f fd F=>B5 F T;have C_law_drawn_clause:Cq l.prog w K mg base 2 "_law_drawn_clause" ["_law_cell_here", "_law_unit_here"] JD:=D__law_drawn_clause.cal fun f fd F=>Kf F T C_law_amount;have C_law_world:Cq l.prog w K mg base 2 "_law_world" ["_law_script", "_law_most"] (Xj K):=D__law_world.cal fun f fd F=>Tx F T C_law_cell C_law_spread C_law_names;have C_law_cond:Cq l.prog w K mg base 2 "_law_cond" ["_law_cell_here", "_law_things", "_law_causes", "_law_unit_here"] N2:=D__law_cond.cal fun f fd F=>Wu F T C_law_amount;have C_law_loss:Cq l.prog w K mg base 1 "_law_loss" ["_law_cell_here", "_law_world_here", "_law_unit_here"] O0:=D__law_loss.cal fun f fd F=>Xe F T
 have C_law_losses:Cq l.prog w K mg base 2 "_law_losses" ["_law_script", "_law_many", "_law_world_here", "_law_unit_here"] (Tf K):=D__law_losses.cal fun f fd F=>Rf F T C_law_loss;have C_law_clause:Cq l.prog w K mg base 6 "_law_clause" ["_law_clause_here"] (EE Ad Aw Ak Aj):=D__law_clause.cal fun f fd F=>Rk F T KOwn KLayer KLimit;have C_law_covers:Cq l.prog w K mg base 3 "_law_covers" ["_law_script", "_law_names_here", "_law_things", "_law_causes", "_law_unit_here"] (N8 K):=D__law_covers.cal fun f fd F=>Si F T C_law_cell C_law_spread C_law_drawn_clause C_law_cond;have C_law_form:Cq l.prog w K mg base 2 "_law_form" ["_law_strips", "_law_cents"] M4:=D__law_form.cal fun f fd F=>Xg F T C_law_whole;have C_law_condition:∀ m,Cq l.prog w K mg base (m+2) "_law_condition" ["_law_cond_here"] (Q4 (A8.mk Ac Ag Ah Am Au Bb Ba At) m):=by
  intro m
  induction m with
  | zero=>
   refine D__law_condition.cal fun f fd F=>GH fun _ _ _ _ z=>?_;obtain⟨_,_,_,_,z,_⟩:=z;exact zBq _ z
  | succ m ih=>exact D__law_condition.cal fun f fd F=>Ml F L ih NCondition KCauseIs KThingIs KDaysIn KOver KNot KAll KSome
 have C_law_book:Cq l.prog w K mg base 8 "_law_book" ["_law_covers_here"] (Xy (A8.mk Ac Ag Ah Am Au Bb Ba At) Ad Aw Ak Aj Ai Az):=D__law_book.cal fun f fd F=>Wh F T C_law_clause (C_law_condition 3) KCover KBook;have C_law_state:Cq l.prog w K mg base 2 "_law_state" ["_law_covers_here", "_law_loss_here", "_law_cell_here", "_law_unit_here"] Wm:=D__law_state.cal fun f fd F=>Tu F T C_law_amount C_law_key;have C_law_counts:Cq l.prog w K mg base 3 "_law_counts" ["_law_had_of"] (G7 Aq):=D__law_counts.cal fun f fd F=>Rq F T KCounts Madd;have C_law_paid_strips:Cq l.prog w K mg base 1 "_law_paid_strips" ["_law_strips", "_law_some"] CD:=D__law_paid_strips.cal fun f fd F=>Kt F T;have C_law_apart:Cq l.prog w K mg base 1 "_law_apart" ["_law_strips", "_law_others"] Wi:=D__law_apart.cal fun f fd F=>Uo F T;exact IU F45 T L C_law_cell C_law_unit C_law_world C_law_covers C_law_book C_law_losses C_law_state C_law_counts Cstrips_of C_law_form C_law_paid_strips C_law_apart KBook
theorem walk {l:PySem.W.OpenLaw} {q:Program} {loose:List Str} {XP:(Str->Option Value)->Heap->Prop} {YP:World->Heap->Prop} {d:DefRec} {K:Params->zAa} (hn:l.most=some 63) (hdf:d.params.defaults=[])
  (hY:∀ (w:World) (h:Heap),YP w h->(K w.params).In h)
  (F:∀ (w:World) (mg:Str->Option Value) (fa:Addr) (h:Heap),(K w.params).In h->h.Ns zCH mg->mg d.name=some (.ref fa) ->
   ∃ fd:zCG,(∀ (s:Shared) (u:Value),BindsTo s fd ⟨[u],[]⟩ [("_law_script",u)])/\∀ base:Heap,(K w.params).In base->base.Ns zCH mg->FnOk l.prog w (K w.params) mg base Da 9 fa fd ["_law_script"] (V2 (K w.params))) :
  PySem.W.WalkO q loose XP YP l.row.toRowW d [] (fun f vs=>PySem.call f vs):=
 L2.walk_of (n:=63) (k:=9) (x := "_law_script") (CX:=fun _=>Da) (sp:=fun w=>V2 (K w.params)) hn (by decide) hdf ⟨rfl,by decide,by decide⟩ hY F (fun _ _ a ns hl _ hS=>⟨a,ns,rfl,hS,hl,fun _=>rfl⟩) fun _ _ _ _ _ z=>z
end CRL
open PySem PySem.W PyProof.Rows
namespace PySem.W.Fast
def tw12160604560197304330:=0
def tw9265553381613510193:=0
def tw17009494353114137604:=0
def tw9121198601781138185:=0
def tw14163431900130528646:=0
def tw6911735684856738688:=0
def tw7002723769383119154:=0
def tw13418780316729872914:=0
def tw4055366855686096653:=0
def tw6208741126521215543:=0
def tw2434479010428554770:=0
def tw14974490764464249136:=0
def tw4876059144013568099:=0
def tw10182320811889996776:=0
def tw586967650242766539:=0
def tw7508903953285302482:=0
def tw10229914018682057059:=0
def tw10025196707380937918:=0
def tw4362430126299050738:=0
def tw14739610954106338101:=0
def tw15412898892078158496:=0
def tw17924715778356185980:=0
def tw15430985233955456346:=0
def tw1557870889171125049:=0
def tw14130868822484337110:=0
def tw14289589927498349833:=0
def tw11407757280964858099:=0
def tw1887990772000459400:=0
def tw7599694531887405170:=0
def tw1297072151557435204:=0
def tw14226321081369370907:=0
def tw11083670741186315413:=0
def tw4943469944158029805:=0
def tw13052049926032802989:=0
def tw3854142182905124145:=0
def tw12285776503918242224:=0
def tw15778401664562041822:=0
def tw16968369128136251507:=0
def tw12648766793202633269:=0
def tw13071522785696316341:=0
def tw15261422260804684901:=0
def tw11127963903173568407:=0
def tw6547309407099187284:=0
def tw14283587119604312166:=0
def tw748339567896034195:=0
def tw3216863461738644171:=0
def tw4750039715584875950:=0
def tw18015862675385867686:=0
def tw8690246734102747949:=0
def tw15593170124041225735:=0
def tw8929930275352497506:=0
def tw13878332765555709244:=0
def tw120064019514640303:=0
def tw17685363975382742828:=0
def tw5243118096611643452:=0
def tw11022569985195350657:=0
def tw11156942550971109512:=0
def tw15062239405452149543:=0
def tw12662519694826696748:=0
def tw11411790846712380791:=0
def tw14751219881701033295:=0
def tw14085843349307444662:=0
def tw14180743078525156471:=0
def tw11485400087715537704:=0
def tw7846457493072891641:=0
def tw2844763541091916787:=0
def tw15021813856285690988:=0
def tw17839956974020617622:=0
def tw897078939634697941:=0
def tw10983295173963527592:=0
def tw12958858301913125830:=0
def tw68148661825007452:=0
def tw2698446431785449733:=0
def tw7345125201831168372:=0
def tw6105323213596524345:=0
def tw6081267328418735084:=0
def tw8525423792063622878:=0
def tw13226107111175588230:=0
def tw17188993013143239023:=0
def tw11181722264225519014:=0
def tw9435621590902301252:=0
def tw1628687735902948942:=0
def tw4854555592421438354:=0
def tw822956574324181423:=0
def tw3744654627000353040:=0
def tw9060449564376582649:=0
def tw17893073432140849328:=0
def tw6865753442688507855:=0
def tw8742925994784002369:=0
def tw5202918802981721920:=0
def tw16231672820516361300:=0
def tw4551546800845083294:=0
def tw5260961509433238649:=0
def tw10768650590967436166:=0
def tw12480092928352857223:=0
def tw11549149196547021212:=0
def tw12054101458118920869:=0
def tw15151368890471085732:=0
def tw10530377195488646909:=0
def tw9771439288127571077:=0
def tw10473019311574063763:=0
def tw16188657444868925752:=0
def tw2410685576444414981:=0
def tw12231822341564560806:=0
def tw3183410755745101625:=0
def tw10240288569715398406:=0
def tw1304514727135709217:=0
def tw16086447884602216544:=0
def tw7129121835346243888:=0
def tw11455777548758867353:=0
def tw3417836082841397072:=0
def tw4477506915464793170:=0
def tw16898152116909989235:=0
def tw17566596464275847851:=0
def tw8549486250787967289:=0
def tw15928332254746911505:=0
def tw274872656157001543:=0
def tw11483810023905995245:=0
def tw781201854148842880:=0
def tw10238304080751912260:=0
def tw2922725179432564008:=0
def tw4490287815234290715:=0
def tw1004280897893108626:=0
def tw6767713929480582978:=0
def tw2677689728318171187:=0
def tw8867728000627038736:=0
def tw10971988073044180212:=0
def tw18442080431546011354:=0
def tw10210227263802469503:=0
def tw12783242324506339162:=0
def tw13005034515867691507:=0
def tw13347429284361649423:=0
def tw12018475360488786818:=0
def tw10945013968687157261:=0
def tw2542947956729196420:=0
def tw7131634961103439398:=0
def tw11087618444965660111:=0
def tw9484642535722480491:=0
def tw3968622191699246617:=0
def tw5650732177232567181:=0
def tw7300632438071384588:=0
def tw4226454574475380304:=0
def tw10614744727226104864:=0
def tw2249904651828733186:=0
def tw16777276639200862501:=0
def tw15984519417618042732:=0
def tw13051165848958189947:=0
def tw17609549654763356413:=0
def tw17606483124895866226:=0
def tw2259423054026077832:=0
def tw13696898866225175813:=0
def tw12855346504055449295:=0
def tw15490546389912901189:=0
def tw12824605206822973893:=0
def tw11326545764644283259:=0
def tw10845678628762793499:=0
def tw2568464276761920255:=0
def tw1578985099310976585:=0
def tw11015689027693758500:=0
def tw868628876548072717:=0
def tw3688905487199408772:=0
def tw12957578820945521176:=0
def tw8524160491335284666:=0
def tw6939503676488072287:=0
def tw8914167963615415540:=0
def tw15108860439708782518:=0
def tw5261737960113222210:=0
def tw10937324588482734181:=0
def tw17211727042937994163:=0
def tw734967733258153272:=0
def tw6887858986542836414:=0
def tw12281572073553684318:=0
def tw521535876406155650:=0
def tw7065691622215971832:=0
def tw4649635183246144728:=0
def tw11959952728403608267:=0
def tw1016959682779773851:=0
def tw17772900476476812907:=0
def tw14758649547048525813:=0
def tw264299742212241775:=0
def tw4592575270443505609:=0
def tw6567771522382662886:=0
def tw5834559460770724776:=0
def tw11561860613362400954:=0
def tw13015080271861784516:=0
def tw11437008933531540740:=0
def tw15777745648032224168:=0
def tw14461083782762324511:=0
def tw3964802506448699276:=0
def tw14334520260125009582:=0
def tw16478726427191742519:=0
def tw14082274448361272886:=0
def tw17240823362973877684:=0
def tw16737726114537556267:=0
def tw10159670326433172747:=0
def tw4875889086313572700:=0
def tw7568418136412165037:=0
def tw18244579848132169505:=0
def tw16973885189366020797:=0
def tw10271367540486611216:=0
def tw10404534723610958936:=0
def tw557702373830490788:=0
def tw13122859665226770348:=0
def tw3885796193622126840:=0
def tw8204923498524131935:=0
def tw17678902255988147493:=0
def tw16926774697193830320:=0
def tw6713050838135677036:=0
def tw11774426901997550280:=0
def tw14780266093458997739:=0
def tw15254751389829557787:=0
def tw14557528777933844015:=0
def tw10669887959112689109:=0
def tw7843206198235948154:=0
def tw12683969683921447291:=0
def tw4263442352837586742:=0
def tw7222424918658949033:=0
def tw3350301209998235102:=0
def tw12540466567619339840:=0
def tw15699070357330193569:=0
def tw1099525437615138716:=0
def tw6935834606783615792:=0
def tw17260933619952851061:=0
def tw30380338018072303:=0
def tw18317253933266662576:=0
def tw13537458111420278919:=0
def tw9838471296145765827:=0
def tw5095765727134704240:=0
def tw13562061735367210293:=0
def tw13027906340688886355:=0
def tw3926734935728970324:=0
def tw12110067553758386873:=0
def tw16629883903197790971:=0
def tw10680628019847886808:=0
def tw7010758538329589470:=0
def tw3474956889612375106:=0
def tw18272025628943632491:=0
def tw7016300864476587086:=0
def tw4118967880533006960:=0
def tw12794451066364465549:=0
def tw7812255975812126325:=0
def tw7181792675705946270:=0
def tw12638562723251532562:=0
def tw12615857789484692268:=0
def tw183429835716873154:=0
def tw7719694030513952444:=0
def tw2119147897015454103:=0
def tw12246507824072955559:=0
def tw1266685326955627963:=0
def tw2562138960544568244:=0
def tw13849720940530435231:=0
def tw11985580216434156454:=0
def tw13401543985045886643:=0
def tw12847073376395822962:=0
def tw12111109273153030326:=0
def tw2127272466276078338:=0
def tw9275734393605304847:=0
def tw7894779979088478387:=0
def tw7982288538830802671:=0
def tw325456960581974026:=0
def tw13585181724958057317:=0
def tw5948478645294317612:=0
def tw10019172943137670725:=0
def tw5013769980123414073:=0
def tw11172380370123075219:=0
def tw13239837155982209470:=0
def tw7731732529017328882:=0
def tw266181627307246727:=0
def tw11273282911574493488:=0
def tw6470361537100332145:=0
def tw5429664729295615575:=0
def tw2804213310190690442:=0
def tw15555216023631190013:=0
def tw1089713851999053262:=0
def tw7968442842646728949:=0
def tw12475149262686520530:=0
def tw17013501510338281371:=0
def tw3538000294828197772:=0
def tw3976620538000287602:=0
def tw16540435486127444440:=0
def tw2638135396664970676:=0
def tw3450871828504592300:=0
def tw17439251369740257740:=0
def tw6925909763673522307:=0
def tw3979315529825728083:=0
def tw11542058666424939800:=0
def tw12514561370756408879:=0
def tw9074429909574279377:=0
def tw15688338556461876525:=0
def tw5222659426802806343:=0
def tw5225998350642309113:=0
def tw7087264192236861383:=0
def tw10381204736045342950:=0
def tw664746856617135410:=0
def tw5525683515891977584:=0
def tw5927902908115249234:=0
def tw5962341127894854406:=0
def tw5751532390320714964:=0
def tw13827992163690450936:=0
def tw14868760745930521430:=0
def tw13460337699967580334:=0
def tw12164700241340794702:=0
def tw6723907557279628910:=0
def tw11903113294181623414:=0
def tw8644810975507279483:=0
def tw5290770019695137525:=0
def tw601831208032846631:=0
def tw5418127498431447958:=0
def tw35803304677196129:=0
def tw14404094186676523037:=0
def tw2479612228716811810:=0
def tw8998581805768111988:=0
def tw4375215536323749183:=0
def tw8128299838443172593:=0
def tw10414671374176870861:=0
def tw9353949699690286393:=0
def tw3225410760925578664:=0
def tw18289017760485509871:=0
def tw9639514467384590121:=0
def tw2301893062896094612:=0
def tw16988321637000983753:=0
def tw13077211036398264191:=0
def tw11052900492233412765:=0
def tw6655870338874798928:=0
def tw12843588808657207403:=0
def tw18388026470084383362:=0
def tw5893762975398380554:=0
def tw15634234460531621066:=0
def tw14624636560929385127:=0
def tw17160728923503995186:=0
def tw5747461009922646807:=0
def tw8523608435118459633:=0
def tw10425358046335767102:=0
def tw13939854316738568373:=0
def tw2256612948981062648:=0
def tw16480593429513952998:=0
def tw1877396395941983036:=0
def tw6835386487657872236:=0
def tw11283268505832819207:=0
def tw10448548257309754783:=0
def tw15703701729812070749:=0
def tw11445548388797201158:=0
def tw7531404419985755771:=0
def tw7986171443747081558:=0
def tw10749177401250605260:=0
def tw1009088312180651451:=0
def tw15602879529226147021:=0
def tw11420394316115398333:=0
def tw14375999332646032541:=0
def tw11891844498519143364:=0
def tw4698470243012014159:=0
def tw15131867056035099059:=0
end PySem.W.Fast
set_option tactic.hygienic true in
set_option maxRecDepth 100000 in
set_option maxHeartbeats 0 in
theorem PySem.Challenge.cw_coverroll_k47_whole_those_that_wait_holds : PySem.Challenge.rw_coverroll_k47_whole_those_that_wait.Holds := by
 w_on; o_law; k_head; (case hw=>w_witness2)
 k_fill
 refine CRL.walk (l:=PySem.Challenge.rw_coverroll_k47_whole_those_that_wait) rfl rfl (fun w h Y=>PySem.W.kIn_of Y) ?F
 case F=>
  intro w mg fa h KX G hmg
  refine' CRL.all_mk KX G hmg ?d0 ?d1 ?d2 ?d3 ?d4 ?d5 ?d6 ?d7 ?d8 ?d9 ?d10 ?d11 ?d12 ?d13 ?d14 ?d15 ?d16 ?d17 ?d18 ?d19 ?d20 ?d21 ?d22 ?d23 ?d24 ?d25 ?d26 ?d27 ?d28 ?d29 ?d30 ?d31 ?d32 ?d33 ?d34 ?d35 ?d36 ?d37 ?d38 ?d39 ?d40 ?d41 ?d42 ?d43 ?d44 ?d45 ?q_Condition ?q_CauseIs ?na_CauseIs_name ?q_ThingIs ?na_ThingIs_name ?q_DaysIn ?na_DaysIn_first ?na_DaysIn_last ?q_Over ?na_Over_cents ?q_Not ?na_Not_part ?q_All ?na_All_several ?q_Some ?na_Some_several ?q_Clause ?na_Clause_by ?ha_Clause ?hm_Clause ?gs ?tk ?q_Own ?na_Own_cents ?na_Own_by ?ha_Own ?hm_Own ?q_Layer ?na_Layer_first ?na_Layer_upto ?na_Layer_by ?ha_Layer ?hm_Layer ?q_Limit ?na_Limit_most ?na_Limit_by ?ha_Limit ?hm_Limit ?q_Deal ?na_Deal_wheel ?na_Deal_weights ?q_Cover ?na_Cover_name ?na_Cover_condition ?na_Cover_clauses ?na_Cover_houses ?na_Cover_deal ?na_Cover_waits ?q_Book ?na_Book_covers ?na_Book_asking ?q_Counts ?na_Counts_kept ?kt_Clause_Limit ?kt_Own_Limit ?kt_Layer_Limit ?kt_Limit_Limit ?nd_C ?a_Condition_holds ?iCondition_holds ?a_CauseIs___init__ ?iCauseIs___init__ ?a_CauseIs_holds ?iCauseIs_holds ?a_ThingIs___init__ ?iThingIs___init__ ?a_ThingIs_holds ?iThingIs_holds ?a_DaysIn___init__ ?iDaysIn___init__ ?a_DaysIn_holds ?iDaysIn_holds ?a_Over___init__ ?iOver___init__ ?a_Over_holds ?iOver_holds ?a_Not___init__ ?iNot___init__ ?a_Not_holds ?iNot_holds ?a_All___init__ ?iAll___init__ ?a_All_holds ?iAll_holds ?a_Some___init__ ?iSome___init__ ?a_Some_holds ?iSome_holds ?a_Clause___init__ ?iClause___init__ ?a_Clause_span ?iClause_span ?a_Clause_room ?iClause_room ?a_Clause_key ?iClause_key ?a_Own___init__ ?iOwn___init__ ?a_Own_span ?iOwn_span ?a_Layer___init__ ?iLayer___init__ ?a_Layer_span ?iLayer_span ?a_Limit___init__ ?iLimit___init__ ?a_Limit_room ?iLimit_room ?a_Deal___init__ ?iDeal___init__ ?a_Cover___init__ ?iCover___init__ ?lCover___init__ ?cCover___init__ ?kCover___init__ ?dlCover___init__ ?a_Cover_asks ?iCover_asks ?a_Cover_spans ?iCover_spans ?a_Cover_window ?iCover_window ?a_Cover_parts ?iCover_parts ?a_Cover_rest ?iCover_rest ?a_Book___init__ ?iBook___init__ ?a_Counts___init__ ?iCounts___init__ ?a_Counts_have ?iCounts_have ?a_Counts_add ?iCounts_add ?a_Own_room ?a_Own_key ?a_Layer_room ?a_Layer_key ?a_Limit_span ?a_Limit_key ?bg_Clause___init__ ?br_Clause___init__ ?bf_Clause___init__ ?ni_Condition ?z_WAYS ?lw_WAYS ?z_CAUSE ?z_CENTS ?z_COVERED_ONE ?z_DAY ?z_DAYS_OF_YEAR ?z_EVENT ?z_LETTERS ?z_LONGEST_NAME ?z_MOST_CENTS ?z_MOST_CLAUSES ?z_MOST_COVERS ?z_MOST_PLACES ?z_MOST_TURNS ?z_NUMBER ?z_THING ?z_bool ?z_enumerate ?z_int ?z_isinstance ?z_len ?z_list ?z_max ?z_min ?z_range ?z_set ?z_sorted ?z_str ?z_sum ?z_tuple ?z_zip
  (case q_Condition|q_CauseIs|q_ThingIs|q_DaysIn|q_Over|q_Not|q_All|q_Some|q_Clause|q_Own|q_Layer|q_Limit|q_Deal|q_Cover|q_Book|q_Counts => (constructor <;> k_is))
  (case na_CauseIs_name|na_ThingIs_name|na_DaysIn_first|na_DaysIn_last|na_Over_cents|na_Not_part|na_All_several|na_Some_several|na_Clause_by|ha_Clause|hm_Clause|gs|tk|na_Own_cents|na_Own_by|ha_Own|hm_Own|na_Layer_first|na_Layer_upto|na_Layer_by|ha_Layer|hm_Layer|na_Limit_most|na_Limit_by|ha_Limit|hm_Limit|na_Deal_wheel|na_Deal_weights|na_Cover_name|na_Cover_condition|na_Cover_clauses|na_Cover_houses|na_Cover_deal|na_Cover_waits|na_Book_covers|na_Book_asking|na_Counts_kept|a_Condition_holds|a_CauseIs___init__|a_CauseIs_holds|a_ThingIs___init__|a_ThingIs_holds|a_DaysIn___init__|a_DaysIn_holds|a_Over___init__|a_Over_holds|a_Not___init__|a_Not_holds|a_All___init__|a_All_holds|a_Some___init__|a_Some_holds|a_Clause___init__|a_Clause_span|a_Clause_room|a_Clause_key|a_Own___init__|a_Own_span|a_Layer___init__|a_Layer_span => k_is)
  (case a_Limit___init__|a_Limit_room|a_Deal___init__|a_Cover___init__|iCover___init__|lCover___init__|cCover___init__|kCover___init__|dlCover___init__|a_Cover_asks|a_Cover_spans|a_Cover_window|a_Cover_parts|a_Cover_rest|a_Book___init__|a_Counts___init__|a_Counts_have|a_Counts_add|a_Own_room|a_Own_key|a_Layer_room|a_Layer_key|a_Limit_span|a_Limit_key|bg_Clause___init__|br_Clause___init__|bf_Clause___init__|ni_Condition|z_WAYS|lw_WAYS|z_CAUSE|z_CENTS|z_COVERED_ONE|z_DAY|z_DAYS_OF_YEAR|z_EVENT|z_LETTERS|z_LONGEST_NAME|z_MOST_CENTS|z_MOST_CLAUSES|z_MOST_COVERS|z_MOST_PLACES|z_MOST_TURNS|z_NUMBER|z_THING|z_bool|z_enumerate|z_int|z_isinstance|z_len|z_list|z_max|z_min|z_range|z_set|z_sorted|z_str|z_sum|z_tuple|z_zip => k_is)
  (case d0|d1|d2|d3|d4|d5|d6|d7|d8|d9|d10|d11|d12|d13|d14|d15|d16|d17|d18|d19|d20|d21|d22|d23|d24|d25|d26|d27|d28|d29|d30|d31|d32|d33|d34|d35|d36|d37|d38|d39|d40|d41|d42|d43|d44|d45 => (apply L2.DfIn.of <;> k_is))
  (case iCondition_holds|iCauseIs___init__|iCauseIs_holds|iThingIs___init__|iThingIs_holds|iDaysIn___init__|iDaysIn_holds|iOver___init__|iOver_holds|iNot___init__|iNot_holds|iAll___init__|iAll_holds|iSome___init__|iSome_holds|iClause___init__|iClause_span|iClause_room|iClause_key|iOwn___init__|iOwn_span|iLayer___init__|iLayer_span|iLimit___init__|iLimit_room|iDeal___init__|iCover_asks|iCover_spans|iCover_window|iCover_parts|iCover_rest|iBook___init__|iCounts___init__|iCounts_have|iCounts_add => (apply L2.MtIn.of <;> k_is))
  (case kt_Clause_Limit|kt_Own_Limit|kt_Layer_Limit|kt_Limit_Limit => kit_is)
  (case nd_C => decide)
